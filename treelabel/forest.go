package treelabel

import (
	"cmp"
	"slices"
)

// none stands for a node that does not exist: the parent of a root, the first child of
// a leaf, and what follows the last of several sisters.
const none = -1

// forest leads from the nodes to their children.
type forest struct {
	first []int // the first child of each parent, with 1 plus the parent as the index: those of none are the roots
	next  []int // the sister that follows each node
}

// arrange returns the forest of parents that are right.
func arrange(parents []int) forest {
	f := forest{slices.Repeat([]int{none}, len(parents)+1), make([]int, len(parents))}
	for i, parent := range slices.Backward(parents) {
		f.next[i] = f.first[parent+1]
		f.first[parent+1] = i
	}
	return f
}

// walk assigns labels on its way through a forest.
type walk struct {
	forest
	labels    []Label
	pre, post int // how many nodes have been entered, and how many left
}

// children assigns the labels to the trees of the children of a node, or to all trees.
func (w *walk) children(parent, depth int) {
	for i := w.first[parent+1]; i != none; i = w.next[i] {
		pre := w.pre
		w.pre++
		w.children(i, depth+1)
		w.labels[i] = Label{pre, w.post, depth}
		w.post++
	}
}

// rebuild returns the only parents by which Pre and Depth of the labels may be right:
// the parent of a node is the last one before it that lies a step higher. It returns
// false if some node has none there and is no root.
func rebuild(labels []Label) ([]int, bool) {
	order := make([]int, len(labels))
	for i := range order {
		order[i] = i
	}
	slices.SortFunc(order, func(a, b int) int { return cmp.Compare(labels[a].Pre, labels[b].Pre) })
	parents := make([]int, len(labels))
	above := []int{none} // for each depth the parent of a node that would follow there
	for _, i := range order {
		depth := labels[i].Depth
		if depth < 0 || depth >= len(above) {
			return nil, false
		}
		parents[i] = above[depth]
		above = append(above[:depth+1], i)
	}
	return parents, true
}
