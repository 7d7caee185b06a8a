package postings_test

import (
	"slices"
	"testing"

	"corpora/api"
	"corpora/postings"
)

// most is the greatest position.
const most = 1<<31 - 1

// built returns the list of positions that are right.
func built(t *testing.T, positions []int) *postings.List {
	t.Helper()
	l, e := postings.Build(positions)
	if e != api.OK || l == nil {
		t.Fatalf("Build of %d positions, %v.. = %v, %d", len(positions), positions[:min(len(positions), 8)], l != nil, e)
	}
	return l
}

// each returns a list of n numbers, which a rule tells.
func each(n int, rule func(i int) int) []int {
	list := make([]int, n)
	for i := range list {
		list[i] = rule(i)
	}
	return list
}

// run returns n positions from one on without a gap between them.
func run(from, n int) []int { return each(n, func(i int) int { return from + i }) }

// steps returns n positions from one on at equal distances.
func steps(from, n, distance int) []int {
	return each(n, func(i int) int { return from + i*distance })
}

// with returns a list with other numbers from a place on.
func with(list []int, i int, others ...int) []int {
	list = slices.Clone(list)
	copy(list[i:], others)
	return list
}

// subsets returns the ascending lists of numbers less than n.
func subsets(n int) [][]int {
	all := [][]int{nil}
	for p := range n {
		for _, list := range all {
			all = append(all, append(slices.Clone(list), p))
		}
	}
	return all
}

// lists returns all lists of up to n elements out of some.
func lists[T any](n int, elements ...T) [][]T {
	all := [][]T{nil}
	longest := all
	for range n {
		var longer [][]T
		for _, list := range longest {
			for _, x := range elements {
				longer = append(longer, append(slices.Clone(list), x))
			}
		}
		all = append(all, longer...)
		longest = longer
	}
	return all
}

// dice returns a function that returns the numbers of a fixed sequence without an obvious order.
func dice(state uint64) func(below int) int {
	return func(below int) int {
		state = state*6364136223846793005 + 1442695040888963407
		return int(state >> 33 % uint64(below))
	}
}

// scattered returns n positions, most of them close to the one before; the others are at most a width behind it.
func scattered(next func(int) int, n, width int) []int {
	p := -1
	return each(n, func(int) int {
		if next(4) == 0 {
			p += next(width)
		} else {
			p += next(3)
		}
		p++
		return p
	})
}

// roomy returns a list with n spare elements behind it, all of them 7.
func roomy[T int | byte](list []T, n int) []T {
	return append(slices.Clone(list), slices.Repeat([]T{7}, n)...)[:len(list)]
}

// overwrite changes a list and its spare elements.
func overwrite[T int | byte](list []T) {
	for i := range list[:cap(list)] {
		list[:cap(list)][i] = 9
	}
}

// samples returns lists of all sizes about those of parts, dense ones and such with gaps of all widths in different places.
func samples() [][]int {
	next := dice(171)
	l := [][]int{nil, {0}, {1}, {most}, {most - 1}, {0, most}, {most - 1, most}, {0, 4, 5}, {0, 1, most - 1, most}, run(most-4095, 4096)}
	for _, n := range []int{2, 14, 15, 16, 17, 18, 31, 32, 33, 34, 47, 48, 49, 64, 65, 100, 255, 256, 257, 1000, 4094, 4095, 4096} {
		wide := most / n
		l = append(l, run(0, n), run(9, n), steps(0, n, 2), steps(0, n, wide), steps(1, n, wide/2), run(most+1-n, n), append(run(0, n-1), most), append([]int{0}, run(most+2-n, n-1)...),
			scattered(next, n, 9), scattered(next, n, 300), scattered(next, n, 100000), each(n, func(i int) int { return i*i*100 + 7 }))
	}
	for bits := range 31 { // gaps about a power of two, in front of each part
		p := 1 << bits
		l = append(l, []int{p - 1}, []int{p}, []int{0, p}, append(run(0, 15), p+15), append(run(0, 16), p+15, p+17), with(run(p, 40), 0, p-1))
	}
	return l
}
