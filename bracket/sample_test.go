package bracket_test

import (
	"slices"
	"strings"

	"corpora/api"
)

// node returns a node.
func node(label string, begin, end, parent int) api.Node {
	return api.Node{Label: label, Begin: begin, End: end, Parent: parent}
}

// samples returns all texts of at most n pieces.
func samples(n int, pieces ...string) []string {
	all := []string{""}
	for begin := 0; n > 0; n-- {
		end := len(all)
		for _, s := range all[begin:end] {
			for _, p := range pieces {
				all = append(all, s+p)
			}
		}
		begin = end
	}
	return all
}

// chain returns n nodes of one token, each within the one before it.
func chain(n int) []api.Node {
	var nodes []api.Node
	for i := range n {
		nodes = append(nodes, node("C", 0, 1, i-1))
	}
	return nodes
}

// row returns n nodes of one token each, one behind the other.
func row(n int) []api.Node {
	var nodes []api.Node
	for i := range n {
		nodes = append(nodes, node("R", i, i+1, -1))
	}
	return nodes
}

// random returns a function that returns the numbers of a fixed sequence without an obvious order.
func random(seed uint64) func(below int) int {
	state := seed
	return func(below int) int {
		state = state*6364136223846793005 + 1442695040888963407
		return int(state >> 33 % uint64(below))
	}
}

// pick returns one of the elements.
func pick[T any](next func(int) int, list ...T) T {
	return list[next(len(list))]
}

// generate returns nodes that are valid in a text of a number of tokens.
func generate(next func(int) int) ([]api.Node, int) {
	tokens := next(12)
	return generateWithin(next, nil, 0, tokens, -1), tokens
}

// generateWithin appends nodes that lie within a span and have this parent.
func generateWithin(next func(int) int, nodes []api.Node, begin, end, parent int) []api.Node {
	for at := begin; at < end; {
		n := node(pick(next, "S", "NP", "_", "b-9", "Aa0_-"), at, at+1+next(end-at), parent)
		at = n.End
		if next(3) > 0 {
			nodes = generateWithin(next, append(nodes, n), n.Begin, n.End, len(nodes))
		}
	}
	return nodes
}

// spoil changes a field of a node, or the list, mostly to something wrong.
func spoil(next func(int) int, nodes []api.Node, tokens int) []api.Node {
	nodes = slices.Clone(nodes)
	if len(nodes) == 0 {
		return []api.Node{node("A", next(3)-1, next(3), next(3)-1)}
	}
	i := next(len(nodes))
	switch next(6) {
	case 0:
		nodes[i].Label = pick(next, "", "9", "-", "é", "A b", "(", strings.Repeat("L", 32), strings.Repeat("L", 33))
	case 1:
		nodes[i].Begin = next(tokens+4) - 2
	case 2:
		nodes[i].End = next(tokens+4) - 2
	case 3:
		nodes[i].Parent = next(len(nodes)+4) - 2
	case 4:
		nodes = slices.Delete(nodes, i, i+1)
	default:
		nodes = slices.Insert(nodes, i, nodes[next(len(nodes))])
	}
	return nodes
}

// generateText returns a text most of whose parts may stand where they do, and the number of its tokens.
func generateText(next func(int) int) (string, int) {
	blank := func() string { return pick(next, "", "", "", " ", "\n", " \n ") }
	data, open, tokens := "", 0, 0
	for range next(20) {
		switch kind := next(8); {
		case kind < 3:
			data += "(" + blank() + pick(next, "S", "NP", "_", "b-9") + blank() + "*"
			open, tokens = open+1, tokens+1
		case kind < 5 && open > 0:
			data += ")"
			open--
		case kind < 6:
			data += "(" + blank() + "x(Y *)" + "*)"
			tokens += 2
		default:
			data += "*"
			tokens++
		}
		data += blank()
	}
	return data + strings.Repeat(")"+blank(), open), tokens
}
