package treelabel_test

import (
	"slices"
	"testing"

	"corpora/api"
	"corpora/treelabel"
)

// The reference lists the nodes in preorder and in postorder and looks for each node in
// these lists. It takes as the parent of a node the last one that dominates it by the
// numbers, and compares whole lines of ancestors.

func assign(parents []int) ([]treelabel.Label, int, api.Errno) {
	if len(parents) > 4096 {
		return nil, 0, api.ErrLimit
	}
	for i, parent := range parents {
		if parent < -1 || parent >= len(parents) {
			return nil, i, api.ErrRange
		}
	}
	for i := range parents {
		if leadsBack(parents, i) {
			return nil, i, api.ErrCycle
		}
	}
	before, after := orders(parents, -1)
	var labels []treelabel.Label
	for i := range parents {
		labels = append(labels, treelabel.Label{Pre: slices.Index(before, i), Post: slices.Index(after, i), Depth: len(line(parents, i)) - 1})
	}
	return labels, 0, api.OK
}

// leadsBack reports whether the parents lead from a node back to it.
func leadsBack(parents []int, i int) bool {
	at := parents[i]
	for range parents {
		if at == i || at == -1 {
			break
		}
		at = parents[at]
	}
	return at == i
}

// orders returns the nodes below a node (all nodes for -1) in preorder and in postorder.
func orders(parents []int, node int) (before, after []int) {
	for i, parent := range parents {
		if parent == node {
			b, a := orders(parents, i)
			before = append(append(before, i), b...)
			after = append(append(after, a...), i)
		}
	}
	return before, after
}

// line returns a node and its ancestors.
func line(parents []int, i int) []int {
	if i == -1 {
		return nil
	}
	return append([]int{i}, line(parents, parents[i])...)
}

func parentsOf(labels []treelabel.Label) ([]int, api.Errno) {
	if len(labels) > 4096 {
		return nil, api.ErrLimit
	}
	var parents []int
	for _, a := range labels {
		parent := -1
		for i, b := range labels {
			if b.Pre < a.Pre && b.Post > a.Post && (parent == -1 || b.Pre > labels[parent].Pre) {
				parent = i
			}
		}
		parents = append(parents, parent)
	}
	if again, _, e := assign(parents); e != api.OK || !slices.Equal(again, labels) {
		return nil, api.ErrCorrupt
	}
	return parents, api.OK
}

// areNodes reports whether labels are those of some parents and the numbers are indices.
func areNodes(labels []treelabel.Label, numbers ...int) bool {
	for _, i := range numbers {
		if i < 0 || i >= len(labels) {
			return false
		}
	}
	_, e := parentsOf(labels)
	return e == api.OK
}

func sisters(labels []treelabel.Label, i, j int) bool {
	if i == j || !areNodes(labels, i, j) {
		return false
	}
	parents, _ := parentsOf(labels)
	return slices.Equal(line(parents, i)[1:], line(parents, j)[1:])
}

func common(labels []treelabel.Label, i, j int) int {
	if !areNodes(labels, i, j) {
		return -1
	}
	parents, _ := parentsOf(labels)
	deepest := -1
	for node := range parents {
		both := slices.Contains(line(parents, i), node) && slices.Contains(line(parents, j), node)
		if both && (deepest == -1 || len(line(parents, node)) > len(line(parents, deepest))) {
			deepest = node
		}
	}
	return deepest
}

// checkAssign compares Assign with the reference, and Parents with what was assigned.
func checkAssign(t *testing.T, parents []int) {
	t.Helper()
	before := slices.Clone(parents)
	labels, i, e := treelabel.Assign(parents)
	if want, k, f := assign(parents); !slices.Equal(labels, want) || i != k || e != f {
		t.Fatalf("Assign(%v) = %v, %d, %d; expected %v, %d, %d", parents, labels, i, e, want, k, f)
	}
	if !slices.Equal(parents, before) {
		t.Fatalf("the argument has changed from %v to %v", before, parents)
	}
	if e != api.OK {
		return
	}
	if got, e := treelabel.Parents(labels); !slices.Equal(got, parents) || e != api.OK {
		t.Fatalf("Parents(%v) = %v, %d; expected %v", labels, got, e, parents)
	}
}

// checkParents compares Parents with the reference.
func checkParents(t *testing.T, labels []treelabel.Label) {
	t.Helper()
	before := slices.Clone(labels)
	got, e := treelabel.Parents(labels)
	if want, f := parentsOf(labels); !slices.Equal(got, want) || e != f {
		t.Fatalf("Parents(%v) = %v, %d; expected %v, %d", labels, got, e, want, f)
	}
	if !slices.Equal(labels, before) {
		t.Fatalf("the argument has changed from %v to %v", before, labels)
	}
}

// checkPairs compares what concerns two nodes with the reference, for all of them.
func checkPairs(t *testing.T, labels []treelabel.Label) {
	t.Helper()
	before := slices.Clone(labels)
	for i := -1; i <= len(labels); i++ {
		for j := -1; j <= len(labels); j++ {
			if got, want := treelabel.Sisters(labels, i, j), sisters(labels, i, j); got != want {
				t.Fatalf("Sisters(%v, %d, %d) = %t", labels, i, j, got)
			}
			if got, want := treelabel.Common(labels, i, j), common(labels, i, j); got != want {
				t.Fatalf("Common(%v, %d, %d) = %d; expected %d", labels, i, j, got, want)
			}
		}
	}
	if !slices.Equal(labels, before) {
		t.Fatalf("the argument has changed from %v to %v", before, labels)
	}
}

// checkRelations compares what the numbers of labels of parents tell with the parents.
func checkRelations(t *testing.T, parents []int) {
	t.Helper()
	labels, _, _ := treelabel.Assign(parents)
	before, after := orders(parents, -1)
	for i, a := range labels {
		for j, b := range labels {
			above := i != j && slices.Contains(line(parents, j), i)
			left := slices.Index(before, i) < slices.Index(before, j) && slices.Index(after, i) < slices.Index(after, j)
			if treelabel.Dominates(a, b) != above || treelabel.Precedes(a, b) != left {
				t.Fatalf("in %v, %d dominates %d: %t, precedes it: %t", parents, i, j, !above, !left)
			}
			relations := 0
			for _, holds := range []bool{treelabel.Dominates(a, b), treelabel.Dominates(b, a), treelabel.Precedes(a, b), treelabel.Precedes(b, a)} {
				if holds {
					relations++
				}
			}
			if relations != min(max(i-j, j-i), 1) {
				t.Fatalf("in %v, there are %d relations between %d and %d", parents, relations, i, j)
			}
		}
	}
}
