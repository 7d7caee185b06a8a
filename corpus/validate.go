package corpus

import (
	"slices"

	"corpora/api"
	"corpora/feature"
	"corpora/markup"
)

// part is how a part of a corpus is checked: as a whole, then element by element.
type part struct {
	number, elements int
	whole            func() api.Errno
	element          func(i int) api.Errno
}

// check returns the first error of a part and the index of its element.
func (p part) check() (int, api.Errno) {
	if e := p.whole(); e != api.OK {
		return 0, e
	}
	for i := range p.elements {
		if e := p.element(i); e != api.OK {
			return i, e
		}
	}
	return 0, api.OK
}

// validator holds a corpus and what the check of an element needs to know of
// those before it.
type validator struct {
	c      api.Corpus
	open   []api.Region // the regions that contain the begin of the last one
	path   []int        // the way from a root down to the last node
	cyclic []bool       // for each token: whether its heads lead back to it
}

// parts returns how the parts are checked. Each of them may rely on those before it.
func (v *validator) parts() []part {
	return []part{
		{api.PartAttributes, len(v.c.Attributes), v.attributes, v.attribute},
		{api.PartTokens, len(v.c.Tokens), v.tokens, v.token},
		{api.PartTexts, len(v.c.Texts), v.texts, v.text},
		{api.PartRegions, len(v.c.Regions), v.regions, v.region},
		{api.PartNodes, len(v.c.Nodes), v.nodes, v.node},
		{api.PartHeads, len(v.c.Heads), v.heads, v.head},
	}
}

func (v *validator) attributes() api.Errno {
	switch {
	case len(v.c.Attributes) == 0:
		return api.ErrCount
	case len(v.c.Attributes) > api.MaxAttributes:
		return api.ErrLimit
	}
	return api.OK
}

func (v *validator) attribute(i int) api.Errno {
	name := v.c.Attributes[i].Name
	sameName := func(a api.Attribute) bool { return a.Name == name }
	switch {
	case !markup.ValidName(name):
		return api.ErrName
	case slices.ContainsFunc(v.c.Attributes[:i], sameName):
		return api.ErrDuplicate
	}
	return api.OK
}

func (v *validator) tokens() api.Errno {
	return limited(v.c.Tokens, api.MaxTokens)
}

func (v *validator) token(i int) api.Errno {
	values := v.c.Tokens[i]
	if len(values) != len(v.c.Attributes) {
		return api.ErrCount
	}
	for k, a := range v.c.Attributes {
		if e := checkValue(a, values[k]); e != api.OK {
			return e
		}
	}
	return api.OK
}

// checkValue returns the reason why s cannot be a value of an attribute.
func checkValue(a api.Attribute, s string) api.Errno {
	if a.Set {
		_, e := feature.Parse(s)
		return e
	}
	return markup.ValidValue(s)
}

func (v *validator) texts() api.Errno {
	if e := limited(v.c.Texts, api.MaxTexts); e != api.OK {
		return e
	}
	if (len(v.c.Texts) == 0) != (len(v.c.Tokens) == 0) {
		return api.ErrCount
	}
	return api.OK
}

func (v *validator) text(i int) api.Errno {
	t := v.c.Texts[i]
	begin := 0
	if i > 0 {
		begin = v.c.Texts[i-1].End
	}
	last := i == len(v.c.Texts)-1
	switch {
	case !markup.ValidName(t.Name):
		return api.ErrName
	case FindText(v.c, t.Name) < i:
		return api.ErrDuplicate
	case t.Begin != begin || t.End <= t.Begin || t.End > len(v.c.Tokens):
		return api.ErrRange
	case last && t.End != len(v.c.Tokens):
		return api.ErrRange
	}
	return checkPairs(t.Meta)
}

func (v *validator) regions() api.Errno {
	return limited(v.c.Regions, api.MaxRegions)
}

func (v *validator) region(i int) api.Errno {
	r := v.c.Regions[i]
	switch {
	case !markup.ValidName(r.Type):
		return api.ErrName
	case !v.withinText(r.Begin, r.End):
		return api.ErrRange
	}
	if e := checkPairs(r.Keys); e != api.OK {
		return e
	}
	if i > 0 && CompareRegions(v.c.Regions[i-1], r) > 0 {
		return api.ErrOrder
	}
	// The order of the regions makes all those begin here or earlier that stand in front of this one.
	v.open = slices.DeleteFunc(v.open, func(o api.Region) bool { return o.End <= r.Begin })
	v.open = append(v.open, r)
	switch {
	case slices.ContainsFunc(v.open, func(o api.Region) bool { return o.Type == r.Type && o.End < r.End }):
		return api.ErrCross
	case len(v.open) > api.MaxDepth:
		return api.ErrLimit
	}
	return api.OK
}

func (v *validator) nodes() api.Errno {
	return limited(v.c.Nodes, api.MaxNodes)
}

func (v *validator) node(i int) api.Errno {
	n := v.c.Nodes[i]
	switch {
	case !markup.ValidName(n.Label):
		return api.ErrName
	case !v.withinText(n.Begin, n.End):
		return api.ErrRange
	}
	// The index of -1, which is not on the path either, leaves no node above.
	above := slices.Index(v.path, n.Parent) + 1
	switch {
	case above == 0 && n.Parent != -1:
		return api.ErrOrder
	case above > 0 && !v.inside(n, n.Parent):
		return api.ErrRange
	// The path leads down to the node before this one, so what follows the parent on it is its last child.
	case above < len(v.path) && n.Begin < v.c.Nodes[v.path[above]].End:
		return api.ErrRange
	}
	v.path = append(v.path[:above], i)
	if len(v.path) > api.MaxDepth {
		return api.ErrLimit
	}
	return api.OK
}

// inside reports whether a node lies within the one with this index.
func (v *validator) inside(n api.Node, parent int) bool {
	p := v.c.Nodes[parent]
	return p.Begin <= n.Begin && n.End <= p.End
}

func (v *validator) heads() api.Errno {
	c := v.c
	switch {
	case len(c.Heads) != len(c.Relations):
		return api.ErrCount
	case len(c.Heads) > 0 && len(c.Heads) != len(c.Tokens):
		return api.ErrCount
	case len(c.Heads) > 0 && headless(c):
		return api.ErrValue
	}
	v.cyclic = cycles(c.Heads)
	return api.OK
}

func (v *validator) head(i int) api.Errno {
	head, relation := v.c.Heads[i], v.c.Relations[i]
	switch {
	case head != -1 && TextAt(v.c, head) != TextAt(v.c, i):
		return api.ErrRange
	case relation != "" && !markup.ValidName(relation):
		return api.ErrName
	case v.cyclic[i]:
		return api.ErrCycle
	}
	return api.OK
}

// withinText reports whether a nonempty span lies within one text.
func (v *validator) withinText(begin, end int) bool {
	text := TextAt(v.c, begin)
	return begin < end && text >= 0 && end <= v.c.Texts[text].End
}

// limited returns ErrLimit for a list with more elements than a limit.
func limited[T any](list []T, limit int) api.Errno {
	if len(list) > limit {
		return api.ErrLimit
	}
	return api.OK
}

// checkPairs returns the error of a list of pairs.
func checkPairs(pairs []api.Pair) api.Errno {
	if len(pairs) > api.MaxPairs {
		return api.ErrLimit
	}
	for i, p := range pairs {
		switch {
		case !markup.ValidName(p.Name):
			return api.ErrName
		case i > 0 && pairs[i-1].Name >= p.Name:
			return api.ErrOrder
		}
		if e := markup.ValidValue(p.Value); e != api.OK {
			return e
		}
	}
	return api.OK
}
