package huffman_test

import "slices"

// each returns a list of n numbers, which a rule tells.
func each(n int, rule func(i int) int) []int {
	list := make([]int, n)
	for i := range list {
		list[i] = rule(i)
	}
	return list
}

// times returns a list of n equal numbers.
func times(n, v int) []int { return each(n, func(int) int { return v }) }

// spread returns a list of n numbers with the given ones far apart, and with 0 between them.
func spread(n int, numbers []int) []int {
	list := make([]int, n)
	for i, v := range numbers {
		list[(i+1)*n/len(numbers)-1] = v
	}
	return list
}

// ladder returns the lengths 1, 2, .. to n, and then n once more, which leaves no room for another code.
func ladder(n int) []int { return append(each(n, func(i int) int { return i + 1 }), n) }

// lists returns all lists of up to n elements out of some.
func lists[T any](n int, elements ...T) [][]T {
	all := [][]T{nil}
	longest := all
	for range n {
		var longer [][]T
		for _, list := range longest {
			for _, x := range elements {
				longer = append(longer, append(slices.Clone(list), x))
			}
		}
		all = append(all, longer...)
		longest = longer
	}
	return all
}

// dice returns a function that returns the numbers of a fixed sequence without an obvious order.
func dice(state uint64) func(below int) int {
	return func(below int) int {
		state = state*6364136223846793005 + 1442695040888963407
		return int(state >> 33 % uint64(below))
	}
}

// skewed returns n counts, about half of which are absent if so, and most of which are small.
func skewed(next func(int) int, n int, gaps bool) []int {
	return each(n, func(int) int {
		if gaps && next(2) == 0 {
			return 0
		}
		return 1 + next(1<<next(13))
	})
}

// roomy returns a list with n spare elements behind it, all of them 7.
func roomy(list []int, n int) []int {
	return append(slices.Clone(list), times(n, 7)...)[:len(list)]
}

// presentOf returns the symbols that have a code.
func presentOf(lengths []int) []int {
	var present []int
	for symbol, n := range lengths {
		if n > 0 {
			present = append(present, symbol)
		}
	}
	return present
}
