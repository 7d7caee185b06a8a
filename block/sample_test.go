package block_test

import "slices"

// each returns a list of n numbers, which a rule tells.
func each(n int, rule func(i int) int) []int {
	list := make([]int, n)
	for i := range list {
		list[i] = rule(i)
	}
	return list
}

// times returns a list of n equal numbers.
func times(n, v int) []int { return each(n, func(int) int { return v }) }

// with returns a list with another number at some places.
func with(list []int, v int, places ...int) []int {
	list = slices.Clone(list)
	for _, i := range places {
		list[i] = v
	}
	return list
}

// lists returns all lists of up to n elements out of some.
func lists[T any](n int, elements ...T) [][]T {
	all := [][]T{nil}
	longest := all
	for range n {
		var longer [][]T
		for _, list := range longest {
			for _, x := range elements {
				longer = append(longer, append(slices.Clone(list), x))
			}
		}
		all = append(all, longer...)
		longest = longer
	}
	return all
}

// dice returns a function that returns the numbers of a fixed sequence without an obvious order.
func dice(state uint64) func(below int) int {
	return func(below int) int {
		state = state*6364136223846793005 + 1442695040888963407
		return int(state >> 33 % uint64(below))
	}
}

// scattered returns n numbers of up to so many bits, about one in so many of which has up to 31 bits.
func scattered(next func(int) int, n, bits, rare int) []int {
	return each(n, func(int) int {
		if next(rare) == 0 {
			return next(1 << next(32))
		}
		return next(1 << bits)
	})
}

// roomy returns a list with n spare elements behind it, all of them 7.
func roomy[T int | byte](list []T, n int) []T {
	return append(slices.Clone(list), slices.Repeat([]T{7}, n)...)[:len(list)]
}
