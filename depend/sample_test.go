package depend_test

import (
	"slices"
	"strings"
)

// samples returns all texts of at most n pieces.
func samples(n int, pieces ...string) []string {
	all := []string{""}
	for begin := 0; n > 0; n-- {
		end := len(all)
		for _, s := range all[begin:end] {
			for _, p := range pieces {
				all = append(all, s+p)
			}
		}
		begin = end
	}
	return all
}

// allHeads returns all lists of n numbers between two numbers, both included.
func allHeads(n, from, to int) [][]int {
	all := [][]int{nil}
	for range n {
		var longer [][]int
		for _, heads := range all {
			for h := from; h <= to; h++ {
				longer = append(longer, append(slices.Clone(heads), h))
			}
		}
		all = longer
	}
	return all
}

// made returns n heads that a rule tells.
func made(n int, rule func(i int) int) []int {
	heads := make([]int, n)
	for i := range heads {
		heads[i] = rule(i)
	}
	return heads
}

// chain returns heads by which each token but the first depends on the one before it.
func chain(n int) []int {
	return made(n, func(i int) int { return i - 1 })
}

// back returns heads by which each token but the last depends on the one behind it.
func back(n int) []int {
	heads := made(n, func(i int) int { return i + 1 })
	heads[n-1] = -1
	return heads
}

// star returns heads by which all tokens depend on one of them.
func star(n, center int) []int {
	heads := made(n, func(int) int { return center })
	heads[center] = -1
	return heads
}

// random returns a function that returns the numbers of a fixed sequence without an obvious order.
func random(seed uint64) func(below int) int {
	state := seed
	return func(below int) int {
		state = state*6364136223846793005 + 1442695040888963407
		return int(state >> 33 % uint64(below))
	}
}

// pick returns one of the elements.
func pick[T any](next func(int) int, list ...T) T {
	return list[next(len(list))]
}

// generate returns n valid heads, of which few are projective.
func generate(next func(int) int, n int) []int {
	heads := make([]int, n)
	var order []int // each token stands behind its head
	for i := range n {
		order = slices.Insert(order, next(i+1), i)
	}
	for k, i := range order {
		heads[i] = -1
		if k > 0 && next(6) > 0 {
			heads[i] = order[next(k)]
		}
	}
	return heads
}

// generateProjective returns n heads that are projective.
func generateProjective(next func(int) int, n int) []int {
	heads := make([]int, n)
	var fill func(begin, end, head int)
	fill = func(begin, end, head int) {
		for begin < end {
			middle := begin + 1 + next(end-begin)
			top := begin + next(middle-begin)
			heads[top] = head
			fill(begin, top, top)
			fill(top+1, middle, top)
			begin = middle
		}
	}
	fill(0, n, -1)
	return heads
}

// generateRelations returns n valid relations.
func generateRelations(next func(int) int, n int) []string {
	var list []string
	for range n {
		list = append(list, pick(next, "", "det", "root", "_", "b-9", strings.Repeat("r", 32)))
	}
	return list
}
