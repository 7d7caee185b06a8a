package treelabel_test

import (
	"slices"
	"testing"

	"corpora/api"
	"corpora/treelabel"
)

// label is short for a label.
type label = treelabel.Label

// labelsOf returns the labels of parents that are right.
func labelsOf(t *testing.T, parents []int) []label {
	t.Helper()
	labels, i, e := treelabel.Assign(parents)
	if i != 0 || e != api.OK {
		t.Fatalf("Assign(%v) = %d, %d", parents, i, e)
	}
	return labels
}

// lists returns all lists of n elements out of some.
func lists[T any](n int, elements ...T) [][]T {
	all := [][]T{nil}
	for range n {
		var longer [][]T
		for _, list := range all {
			for _, x := range elements {
				longer = append(longer, append(slices.Clone(list), x))
			}
		}
		all = longer
	}
	return all
}

// between returns the numbers from one to another, both included.
func between(from, to int) []int {
	var list []int
	for i := from; i <= to; i++ {
		list = append(list, i)
	}
	return list
}

// forests returns the parents of all forests of n nodes.
func forests(n int) [][]int {
	return slices.DeleteFunc(lists(n, between(-1, n-1)...), func(parents []int) bool {
		_, _, e := assign(parents)
		return e != api.OK
	})
}

// each returns the parents of n nodes, which a rule tells.
func each(n int, rule func(i int) int) []int {
	parents := make([]int, n)
	for i := range parents {
		parents[i] = rule(i)
	}
	return parents
}

// Rules for the nodes of forests: a tree in which each node is the only child of the one
// before, one in which all are children of the first, trees of one node, and a tree in
// which each node has two children.
func previous(i int) int { return i - 1 }
func star(i int) int     { return min(i, 1) - 1 }
func alone(int) int      { return -1 }
func binary(i int) int   { return (i+1)/2 - 1 }

// dice returns a function that returns the numbers of a fixed sequence without an obvious order.
func dice(state uint64) func(below int) int {
	return func(below int) int {
		state = state*6364136223846793005 + 1442695040888963407
		return int(state >> 33 % uint64(below))
	}
}

// grow returns a forest of n nodes with the indices in any order.
func grow(next func(int) int, n int) []int {
	parents := slices.Repeat([]int{-1}, n)
	var order []int // each node stands behind its parent
	for i := range n {
		order = slices.Insert(order, next(i+1), i)
	}
	for k, i := range order {
		if k > 0 && next(5) > 0 {
			parents[i] = order[max(next(k), next(k))]
		}
	}
	return parents
}

// spoil changes some numbers of labels, or exchanges them.
func spoil(next func(int) int, labels []label) {
	for range 1 + next(2) {
		a, b := &labels[next(len(labels))], &labels[next(len(labels))]
		number := next(len(labels)+2) - 1
		switch next(7) {
		case 0:
			a.Pre = number
		case 1:
			a.Post = number
		case 2:
			a.Depth = number
		case 3:
			a.Pre, b.Pre = b.Pre, a.Pre
		case 4:
			a.Post, b.Post = b.Post, a.Post
		case 5:
			a.Depth, b.Depth = b.Depth, a.Depth
		default:
			*a, *b = *b, *a
		}
	}
}
