package corpus

import (
	"slices"

	"corpora/api"
)

// headless reports whether no token of a corpus has a head or a relation.
func headless(c api.Corpus) bool {
	return !slices.ContainsFunc(c.Heads, func(head int) bool { return head != -1 }) &&
		!slices.ContainsFunc(c.Relations, func(relation string) bool { return relation != "" })
}

// withoutHeads returns the corpus with the head -1 and no relation for each token.
func withoutHeads(c api.Corpus) api.Corpus {
	c.Heads = slices.Repeat([]int{-1}, len(c.Tokens))
	c.Relations = make([]string, len(c.Tokens))
	return c
}

// cycles reports for each token whether the way by heads leads back to it. A way
// ends at a head that is no token.
func cycles(heads []int) []bool {
	cyclic := make([]bool, len(heads))
	walks := make([]int, len(heads)) // the number of the walk that came to the token first
	isToken := func(i int) bool { return i >= 0 && i < len(heads) }
	for start := range heads {
		walk, at := start+1, start
		for isToken(at) && walks[at] == 0 {
			walks[at] = walk
			at = heads[at]
		}
		if !isToken(at) || walks[at] != walk {
			continue
		}
		// The walk has come back to one of its tokens, from which it would go round for ever.
		for !cyclic[at] {
			cyclic[at] = true
			at = heads[at]
		}
	}
	return cyclic
}
