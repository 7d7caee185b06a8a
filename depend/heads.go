package depend

import "slices"

// root is the head of a token that depends on none.
const root = -1

// isToken reports whether i is the index of a token.
func isToken(heads []int, i int) bool {
	return 0 <= i && i < len(heads)
}

// firstOnCycle returns the least token whose way leads back to it, or -1. All
// heads are roots or indices.
func firstOnCycle(heads []int) int {
	const removed = -1
	dependents := make([]int, len(heads)) // how many of each token have not been removed
	for _, head := range heads {
		if head != root {
			dependents[head]++
		}
	}
	// No cycle contains a token without dependents, so it can be removed, and then
	// its head if it was the last dependent there. All that is left lies on a cycle.
	for i := range heads {
		for at := i; at != root && dependents[at] == 0; {
			dependents[at] = removed
			at = heads[at]
			if at != root {
				dependents[at]--
			}
		}
	}
	return slices.IndexFunc(dependents, func(n int) bool { return n != removed })
}

// way returns a token and its ancestors. The heads are valid.
func way(heads []int, i int) []int {
	var tokens []int
	for at := i; at != root; at = heads[at] {
		tokens = append(tokens, at)
	}
	return tokens
}

// meeting returns the places in two ways to one root where they come together.
func meeting(up, down []int) (int, int) {
	var i, k int
search:
	for i = range up {
		for k = range down {
			if up[i] == down[k] {
				break search
			}
		}
	}
	return i, k
}

// anyGap reports whether some token and its descendants do not stand side by side.
// The heads are valid.
//
// Heads are projective exactly if there is no gap: the arcs from a token down to a
// descendant bridge all tokens between the two, so that in projective heads each of
// these is a descendant, too; and where there is no gap, the tokens below an arc are
// descendants of its head, because the dependent is one.
func anyGap(heads []int) bool {
	ends := make([]int, len(heads)) // the end of what has been met of each token and its descendants
	for i := range heads {
		for at := i; at != root; at = heads[at] {
			if ends[at] != 0 && ends[at] != i {
				return true
			}
			ends[at] = i + 1
		}
	}
	return false
}
