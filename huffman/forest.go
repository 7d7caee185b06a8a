package huffman

import (
	"cmp"
	"slices"
)

// none stands in place of the second item of a leaf.
const none = -1

// item is a leaf or a package.
type item struct {
	weight int
	first  int // the index of an item in the package, or the symbol of the leaf
	second int // the index of the other item in the package, or none
}

// forest contains leaves and packages, which are the roots of trees.
type forest struct {
	items  []item
	leaves []int // their indices in the order of the symbols
}

// plant returns the leaves of symbols that occur so often.
func plant(counts []int) *forest {
	f := &forest{}
	for symbol, c := range counts {
		if c > 0 {
			f.leaves = append(f.leaves, f.add(item{c, symbol, none}))
		}
	}
	return f
}

// lastList returns the indices of the items of the last of limit lists.
func (f *forest) lastList(limit int) []int {
	var list []int
	for range limit {
		list = slices.Concat(f.leaves, f.pack(list))
		// Items of equal weight stay as they stand now: leaves before packages, and both in their order.
		slices.SortStableFunc(list, func(a, b int) int { return cmp.Compare(f.items[a].weight, f.items[b].weight) })
	}
	return list
}

// pack makes packages of the items of a list and returns their indices.
func (f *forest) pack(list []int) []int {
	var packages []int
	for i := 1; i < len(list); i += 2 {
		a, b := list[i-1], list[i]
		packages = append(packages, f.add(item{f.items[a].weight + f.items[b].weight, a, b}))
	}
	return packages
}

// add adds an item and returns its index.
func (f *forest) add(x item) int {
	f.items = append(f.items, x)
	return len(f.items) - 1
}

// tally adds the occurrences of symbols in an item to lengths.
func (f *forest) tally(n int, lengths []int) {
	x := f.items[n]
	if x.second == none {
		lengths[x.first]++
		return
	}
	f.tally(x.first, lengths)
	f.tally(x.second, lengths)
}
