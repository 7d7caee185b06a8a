package corpus_test

import (
	"slices"
	"strconv"
	"strings"

	"corpora/api"
)

// sample returns a valid corpus of two texts with seven tokens.
func sample() api.Corpus {
	return api.Corpus{
		Attributes: []api.Attribute{{Name: "word"}, {Name: "case", Set: true}, {Name: "tag"}},
		Tokens:     [][]string{{"the", "|", "D"}, {"old", "|", "A"}, {"man", "|Nom|", "N"}, {"sat", "|", "V"}, {"he", "|Nom|Sg|", "P"}, {"", "|", ""}, {"left", "|", "V"}},
		Texts:      []api.Text{{Name: "t", Begin: 0, End: 4, Meta: []api.Pair{{Name: "by", Value: "x"}, {Name: "in", Value: ""}}}, {Name: "u", Begin: 4, End: 7}},
		Regions: []api.Region{
			{Type: "s", Begin: 0, End: 4, Keys: []api.Pair{{Name: "n", Value: "1"}}}, {Type: "np", Begin: 0, End: 3}, {Type: "ap", Begin: 1, End: 2}, {Type: "x", Begin: 2, End: 4},
			{Type: "s", Begin: 4, End: 7, Keys: []api.Pair{{Name: "m", Value: "&"}, {Name: "n", Value: "2"}}}, {Type: "np", Begin: 4, End: 5},
		},
		Nodes: []api.Node{
			{Label: "S", Begin: 0, End: 4, Parent: -1}, {Label: "NP", Begin: 0, End: 3, Parent: 0}, {Label: "AP", Begin: 1, End: 2, Parent: 1}, {Label: "VP", Begin: 3, End: 4, Parent: 0},
			{Label: "NP", Begin: 4, End: 5, Parent: -1}, {Label: "VP", Begin: 5, End: 7, Parent: -1}, {Label: "V", Begin: 6, End: 7, Parent: 5},
		},
		Heads:     []int{2, 2, 3, -1, 6, -1, -1},
		Relations: []string{"det", "mod", "subj", "", "subj", "", "root"},
	}
}

// changedSample returns the sample after a change.
func changedSample(change func(c *api.Corpus)) api.Corpus {
	c := sample()
	change(&c)
	return c
}

// generate returns a corpus that is valid but for its regions, which may cross.
func generate(next func(int) int) api.Corpus {
	c := api.Corpus{Attributes: []api.Attribute{{Name: "word"}, {Name: "case", Set: true}}[:1+next(2)]}
	for i := range next(4) {
		begin := len(c.Tokens)
		end := begin + 1 + next(4)
		for len(c.Tokens) < end {
			values := []string{pick(next, "a", "b", ""), pick(next, "|", "|a|", "|a|b|")}
			c.Tokens = append(c.Tokens, values[:len(c.Attributes)])
		}
		c.Texts = append(c.Texts, api.Text{Name: "t" + strconv.Itoa(i), Begin: begin, End: end, Meta: generatePairs(next)})
		for range next(4) {
			from := begin + next(end-begin)
			c.Regions = append(c.Regions, api.Region{Type: pick(next, "s", "p"), Begin: from, End: from + 1 + next(end-from), Keys: generatePairs(next)})
		}
		c.Nodes = generateNodes(next, c.Nodes, begin, end, -1)
	}
	slices.SortFunc(c.Regions, func(a, b api.Region) int { return strings.Compare(rank(a), rank(b)) })
	if len(c.Tokens) > 0 && next(3) > 0 {
		generateHeads(next, &c)
	}
	return c
}

func generatePairs(next func(int) int) []api.Pair {
	return []api.Pair{{Name: "a", Value: pick(next, "", "1")}, {Name: "b", Value: "2"}}[:max(next(5)-2, 0)]
}

// generateNodes appends nodes that lie within a span and have this parent.
func generateNodes(next func(int) int, nodes []api.Node, begin, end, parent int) []api.Node {
	for at := begin; at < end; {
		node := api.Node{Label: pick(next, "S", "NP"), Begin: at, End: at + 1 + next(end-at), Parent: parent}
		at = node.End
		if next(3) == 0 {
			continue
		}
		nodes = append(nodes, node)
		nodes = generateNodes(next, nodes, node.Begin, node.End, len(nodes)-1)
	}
	return nodes
}

// generateHeads gives each token a later one of its text as its head, or none.
func generateHeads(next func(int) int, c *api.Corpus) {
	for _, t := range c.Texts {
		for i := t.Begin; i < t.End; i++ {
			c.Heads = append(c.Heads, pick(next, -1, -1, min(i+1, t.End-1), t.End-1))
			c.Relations = append(c.Relations, pick(next, "", "", "det"))
			if c.Heads[i] == i {
				c.Heads[i] = -1
			}
		}
	}
	if !hasHeads(*c) {
		c.Relations[next(len(c.Relations))] = "root"
	}
}

// spoil changes one field or element of a corpus, mostly to something wrong.
func spoil(next func(int) int, c *api.Corpus) {
	position := func() int { return next(len(c.Tokens)+3) - 1 }
	name := pick(next, "", "9", "s", "t0", "word", "é")
	value := pick(next, "\n", "\xff", "a", "|b|a|", "||", "|a|")
	pair := api.Pair{Name: pick(next, "a", "b", "", "c"), Value: pick(next, "", "1", "\x7f")}
	kinds := []func(){
		func() { c.Attributes = append(c.Attributes, api.Attribute{Name: name}) },
		func() { c.Attributes[0].Name = name },
		func() { at(next, c.Tokens, func(x *[]string) { *x = append(*x, value) }) },
		func() { at(next, c.Tokens, func(x *[]string) { (*x)[next(len(*x))] = value }) },
		func() { c.Tokens = drop(next, c.Tokens) },
		func() { c.Texts = drop(next, c.Texts) },
		func() { at(next, c.Texts, func(x *api.Text) { x.Name = name }) },
		func() { at(next, c.Texts, func(x *api.Text) { x.Begin = position() }) },
		func() { at(next, c.Texts, func(x *api.Text) { x.End = position() }) },
		func() { at(next, c.Texts, func(x *api.Text) { x.Meta = append(x.Meta, pair) }) },
		func() { c.Regions = drop(next, c.Regions) },
		func() { at(next, c.Regions, func(x *api.Region) { x.Type = name }) },
		func() { at(next, c.Regions, func(x *api.Region) { x.Begin = position() }) },
		func() { at(next, c.Regions, func(x *api.Region) { x.End = position() }) },
		func() { at(next, c.Regions, func(x *api.Region) { x.Keys = append(x.Keys, pair) }) },
		func() { c.Nodes = drop(next, c.Nodes) },
		func() { at(next, c.Nodes, func(x *api.Node) { x.Label = name }) },
		func() { at(next, c.Nodes, func(x *api.Node) { x.Begin = position() }) },
		func() { at(next, c.Nodes, func(x *api.Node) { x.End = position() }) },
		func() { at(next, c.Nodes, func(x *api.Node) { x.Parent = next(len(c.Nodes)+2) - 2 }) },
		func() { c.Heads = drop(next, c.Heads) },
		func() { c.Heads = make([]int, len(c.Tokens)); c.Relations = make([]string, len(c.Tokens)) },
		func() { at(next, c.Heads, func(x *int) { *x = position() }) },
		func() { at(next, c.Relations, func(x *string) { *x = name }) },
	}
	kinds[next(len(kinds))]()
}

// at changes an element, if there is one.
func at[T any](next func(int) int, list []T, change func(*T)) {
	if len(list) > 0 {
		change(&list[next(len(list))])
	}
}

// drop returns the list without one of its elements, if it has one.
func drop[T any](next func(int) int, list []T) []T {
	if len(list) == 0 {
		return nil
	}
	i := next(len(list))
	return slices.Concat(list[:i], list[i+1:])
}
