package corpus

import (
	"cmp"
	"slices"

	"corpora/api"
)

// valid reports whether a corpus is valid.
func valid(c api.Corpus) bool {
	_, _, e := Validate(c)
	return e == api.OK
}

// joinable returns the reason why two corpora cannot be joined.
func joinable(a, b api.Corpus) api.Errno {
	hasName := func(t api.Text) bool { return FindText(a, t.Name) >= 0 }
	switch {
	case !valid(a) || !valid(b):
		return api.ErrArg
	case !slices.Equal(a.Attributes, b.Attributes):
		return api.ErrType
	case slices.ContainsFunc(b.Texts, hasName):
		return api.ErrDuplicate
	case len(a.Tokens)+len(b.Tokens) > api.MaxTokens,
		len(a.Texts)+len(b.Texts) > api.MaxTexts,
		len(a.Regions)+len(b.Regions) > api.MaxRegions,
		len(a.Nodes)+len(b.Nodes) > api.MaxNodes:
		return api.ErrLimit
	}
	return api.OK
}

// document returns what a valid corpus has in one of its texts.
func document(c api.Corpus, text int) api.Corpus {
	t := c.Texts[text]
	beginOfRegion := func(r api.Region) int { return r.Begin }
	beginOfNode := func(n api.Node) int { return n.Begin }
	firstNode := firstFrom(c.Nodes, t.Begin, beginOfNode)
	d := api.Corpus{
		Attributes: c.Attributes,
		Tokens:     c.Tokens[t.Begin:t.End],
		Texts:      []api.Text{t},
		Regions:    c.Regions[firstFrom(c.Regions, t.Begin, beginOfRegion):firstFrom(c.Regions, t.End, beginOfRegion)],
		Nodes:      c.Nodes[firstNode:firstFrom(c.Nodes, t.End, beginOfNode)],
	}
	if len(c.Heads) > 0 {
		d.Heads, d.Relations = c.Heads[t.Begin:t.End], c.Relations[t.Begin:t.End]
	}
	if headless(d) {
		d.Heads, d.Relations = nil, nil
	}
	return moved(d, -t.Begin, -firstNode)
}

// firstFrom returns the index of the first element that begins at a position or
// behind it. Regions and nodes of a valid corpus are in ascending order of their
// begins, and none of them crosses the begin of a text.
func firstFrom[T any](list []T, pos int, begin func(T) int) int {
	i, _ := slices.BinarySearchFunc(list, pos, func(x T, pos int) int { return cmp.Compare(begin(x), pos) })
	return i
}

// moved returns a copy of a corpus, with all positions increased by a number of
// tokens, and the indices of parents by a number of nodes.
func moved(c api.Corpus, tokens, nodes int) api.Corpus {
	return api.Corpus{
		Attributes: slices.Clone(c.Attributes),
		Tokens:     changed(c.Tokens, slices.Clone),
		Texts: changed(c.Texts, func(t api.Text) api.Text {
			return api.Text{Name: t.Name, Begin: t.Begin + tokens, End: t.End + tokens, Meta: slices.Clone(t.Meta)}
		}),
		Regions: changed(c.Regions, func(r api.Region) api.Region {
			return api.Region{Type: r.Type, Begin: r.Begin + tokens, End: r.End + tokens, Keys: slices.Clone(r.Keys)}
		}),
		Nodes: changed(c.Nodes, func(n api.Node) api.Node {
			return api.Node{Label: n.Label, Begin: n.Begin + tokens, End: n.End + tokens, Parent: increased(n.Parent, nodes)}
		}),
		Heads:     changed(c.Heads, func(head int) int { return increased(head, tokens) }),
		Relations: slices.Clone(c.Relations),
	}
}

// increased adds to an index of a head or a parent, if there is one.
func increased(i, by int) int {
	if i == -1 {
		return -1
	}
	return i + by
}

// changed returns a new list of what change makes of the elements.
func changed[T any](list []T, change func(T) T) []T {
	all := make([]T, 0, len(list))
	for _, x := range list {
		all = append(all, change(x))
	}
	return all
}
