package tokens_test

import "slices"

// each returns a list of n numbers, which a rule tells.
func each(n int, rule func(i int) int) []int {
	list := make([]int, n)
	for i := range list {
		list[i] = rule(i)
	}
	return list
}

// times returns a list of n equal numbers.
func times(n, v int) []int { return each(n, func(int) int { return v }) }

// cycle returns a list of n numbers, which are some again and again.
func cycle(n int, some ...int) []int { return each(n, func(i int) int { return some[i%len(some)] }) }

// with returns a list with another number at some places.
func with(list []int, v int, places ...int) []int {
	list = slices.Clone(list)
	for _, i := range places {
		list[i] = v
	}
	return list
}

// lists returns all lists of up to n elements out of some.
func lists[T any](n int, elements ...T) [][]T {
	all := [][]T{nil}
	longest := all
	for range n {
		var longer [][]T
		for _, list := range longest {
			for _, x := range elements {
				longer = append(longer, append(slices.Clone(list), x))
			}
		}
		all = append(all, longer...)
		longest = longer
	}
	return all
}

// dice returns a function that returns the numbers of a fixed sequence without an obvious order.
func dice(state uint64) func(below int) int {
	return func(below int) int {
		state = state*6364136223846793005 + 1442695040888963407
		return int(state >> 33 % uint64(below))
	}
}

// scattered returns n numbers, of which the small ones are frequent: the more so, the more often the least of several is taken.
func scattered(next func(int) int, n, most, often int) []int {
	return each(n, func(int) int {
		v := next(most + 1)
		for range often {
			v = min(v, next(most+1))
		}
		return v
	})
}

// withCounts returns a list in which the number i occurs as often as counts[i] says, mixed.
func withCounts(next func(int) int, counts ...int) []int {
	var list []int
	for n, count := range counts {
		list = append(list, times(count, n)...)
	}
	for i := range list {
		j := i + next(len(list)-i)
		list[i], list[j] = list[j], list[i]
	}
	return list
}

// deepCounts are counts of 3570 numbers whose optimal codes have up to 16 bits if nothing limits them. The last number is the most frequent one.
func deepCounts() []int {
	return []int{1, 1, 1, 3, 4, 7, 11, 18, 29, 47, 76, 123, 199, 322, 521, 843, 1364}
}

// roomy returns a list with n spare elements behind it, all of them 7.
func roomy[T int | byte](list []T, n int) []T {
	return append(slices.Clone(list), slices.Repeat([]T{7}, n)...)[:len(list)]
}

// samples returns lists of all sizes about those of blocks, with few or many different numbers in different orders.
func samples() [][]int {
	next := dice(161)
	l := [][]int{
		nil, {0}, {1}, {5, 5, 5}, {1023}, {1000, 0, 3}, {0, 1023, 0}, cycle(128, 0, 1), cycle(200, 0, 4, 8, 12), with(times(130, 0), 1023, 129), with(times(130, 2), 1023, 0, 64, 65, 129), append(times(64, 0), 1),
		each(1024, func(i int) int { return i }), each(2048, func(i int) int { return i / 2 }), each(4096, func(i int) int { return i % 1024 }), each(4096, func(i int) int { return i * i % 997 }), times(4096, 0), times(4096, 1023), append(times(4095, 0), 1023),
		withCounts(next, deepCounts()...), slices.Concat(times(64, 3), times(64, 0), times(64, 9), cycle(50, 1, 2)), scattered(next, 4096, 1023, 0), scattered(next, 4096, 1023, 60), scattered(next, 4096, 20, 1), scattered(next, 4095, 900, 9),
	}
	for _, n := range []int{2, 63, 64, 65, 66, 127, 128, 129, 191, 192, 193, 320, 1000} {
		l = append(l, cycle(n, 0, 2), scattered(next, n, 9, 2), scattered(next, n, 1023, 30), each(n, func(i int) int { return i % 700 }))
	}
	return l
}
