package stab

import (
	"cmp"
	"iter"
	"slices"

	"corpora/api"
)

// node is a span with its number in the list of which the index is made.
type node struct {
	api.Span
	number int
	reach  int // the greatest end in the subtree
}

// tree is a balanced tree in the order of the begins: its root stands in the middle, and
// what stands before and behind the root are its subtrees.
type tree []node

// plant returns the tree of spans.
func plant(l []api.Span) tree {
	t := make(tree, len(l))
	for i, s := range l {
		t[i] = node{Span: s, number: i}
	}
	slices.SortFunc(t, func(a, b node) int { return cmp.Compare(a.Begin, b.Begin) })
	t.measure()
	return t
}

// measure stores the reach of all nodes and returns that of the root.
func (t tree) measure() int {
	if len(t) == 0 {
		return 0
	}
	before, root, behind := t.parts()
	root.reach = max(before.measure(), root.End, behind.measure())
	return root.reach
}

// parts returns the root of a tree that is not empty, and the subtrees on both sides.
func (t tree) parts() (before tree, root *node, behind tree) {
	middle := len(t) / 2
	return t[:middle], &t[middle], t[middle+1:]
}

// endingBehind returns the walk through the nodes whose spans end behind a token, in the
// order of their begins.
func (t tree) endingBehind(token int) iter.Seq[node] {
	return func(yield func(node) bool) { t.visit(token, yield) }
}

// visit hands out the nodes of a walk until it is told to stop, and reports whether the
// walk goes on.
func (t tree) visit(token int, yield func(node) bool) bool {
	if len(t) == 0 {
		return true
	}
	before, root, behind := t.parts()
	if root.reach <= token {
		return true
	}
	return before.visit(token, yield) && (root.End <= token || yield(*root)) && behind.visit(token, yield)
}
