package corpus_test

import (
	"encoding/binary"
	"fmt"
	"slices"
	"testing"

	"corpora/api"
	"corpora/corpus"
	"corpora/feature"
	"corpora/markup"
)

// The reference follows the definitions word by word, with all earlier elements
// for each element; regions are compared by strings that have their order, and
// documents by lists of what they say about their text.

// finding is what Validate returns.
type finding struct {
	part, index int
	e           api.Errno
}

func validating(c api.Corpus) finding {
	part, index, e := corpus.Validate(c)
	return finding{part, index, e}
}

// rule is an error with the question whether it applies.
type rule struct {
	e      api.Errno
	broken func() bool
}

func first(rules []rule) api.Errno {
	for _, r := range rules {
		if r.broken() {
			return r.e
		}
	}
	return api.OK
}

func validate(c api.Corpus) finding {
	sizes := []int{len(c.Attributes), len(c.Tokens), len(c.Texts), len(c.Regions), len(c.Nodes), len(c.Heads)}
	whole := [][]rule{
		{{api.ErrCount, func() bool { return sizes[0] == 0 }}, {api.ErrLimit, func() bool { return sizes[0] > 8 }}},
		{{api.ErrLimit, func() bool { return sizes[1] > 4096 }}},
		{{api.ErrLimit, func() bool { return sizes[2] > 64 }}, {api.ErrCount, func() bool { return min(sizes[1], 1) != min(sizes[2], 1) }}},
		{{api.ErrLimit, func() bool { return sizes[3] > 1024 }}},
		{{api.ErrLimit, func() bool { return sizes[4] > 2048 }}},
		{
			{api.ErrCount, func() bool { return len(c.Relations) != sizes[5] || sizes[5] != 0 && sizes[5] != sizes[1] }},
			{api.ErrValue, func() bool {
				return sizes[5] > 0 && slices.Max(c.Heads) == -1 && slices.Min(c.Heads) == -1 && slices.Max(c.Relations) == ""
			}},
		},
	}
	elements := []func(api.Corpus, int) []rule{attributeRules, tokenRules, textRules, regionRules, nodeRules, headRules}
	for p := range elements {
		if e := first(whole[p]); e != api.OK {
			return finding{p + 1, 0, e}
		}
		for i := range sizes[p] {
			if e := first(elements[p](c, i)); e != api.OK {
				return finding{p + 1, i, e}
			}
		}
	}
	return finding{0, 0, api.OK}
}

// earlier reports whether a question is answered with yes for one of the numbers below i.
func earlier(i int, question func(k int) bool) bool {
	for k := range i {
		if question(k) {
			return true
		}
	}
	return false
}

func attributeRules(c api.Corpus, i int) []rule {
	return []rule{
		{api.ErrName, func() bool { return !markup.ValidName(c.Attributes[i].Name) }},
		{api.ErrDuplicate, func() bool {
			return earlier(i, func(k int) bool { return c.Attributes[k].Name == c.Attributes[i].Name })
		}},
	}
}

func tokenRules(c api.Corpus, i int) []rule {
	rules := []rule{{api.ErrCount, func() bool { return len(c.Tokens[i]) != len(c.Attributes) }}}
	for k, value := range c.Tokens[i] {
		if k >= len(c.Attributes) {
			break
		}
		e := markup.ValidValue(value)
		if c.Attributes[k].Set {
			_, e = feature.Parse(value)
		}
		rules = append(rules, rule{e, func() bool { return e != api.OK }})
	}
	return rules
}

func textRules(c api.Corpus, i int) []rule {
	t, size := c.Texts[i], len(c.Tokens)
	return append([]rule{
		{api.ErrName, func() bool { return !markup.ValidName(t.Name) }},
		{api.ErrDuplicate, func() bool { return earlier(i, func(k int) bool { return c.Texts[k].Name == t.Name }) }},
		{api.ErrRange, func() bool { return i == 0 && t.Begin != 0 || i > 0 && t.Begin != c.Texts[i-1].End }},
		{api.ErrRange, func() bool { return t.End <= t.Begin || t.End > size || i+1 == len(c.Texts) && t.End != size }},
	}, pairRules(t.Meta)...)
}

func pairRules(pairs []api.Pair) []rule {
	rules := []rule{{api.ErrLimit, func() bool { return len(pairs) > 8 }}}
	for i, p := range pairs {
		e := markup.ValidValue(p.Value)
		rules = append(rules,
			rule{api.ErrName, func() bool { return !markup.ValidName(p.Name) }},
			rule{api.ErrOrder, func() bool { return i > 0 && p.Name <= pairs[i-1].Name }},
			rule{e, func() bool { return e != api.OK }})
	}
	return rules
}

// inText reports whether all tokens of a nonempty span belong to one text.
func inText(c api.Corpus, begin, end int) bool {
	return slices.ContainsFunc(c.Texts, func(t api.Text) bool { return t.Begin <= begin && begin < end && end <= t.End })
}

func regionRules(c api.Corpus, i int) []rule {
	r := c.Regions[i]
	crossing := func(k int) bool {
		o := c.Regions[k]
		shared := max(o.Begin, r.Begin) < min(o.End, r.End)
		contains := o.Begin <= r.Begin && r.End <= o.End
		contained := r.Begin <= o.Begin && o.End <= r.End
		return o.Type == r.Type && shared && !contains && !contained
	}
	depth := func() int {
		n := 0
		for _, o := range c.Regions[:i+1] {
			if o.Begin <= r.Begin && r.Begin < o.End {
				n++
			}
		}
		return n
	}
	rules := []rule{
		{api.ErrName, func() bool { return !markup.ValidName(r.Type) }},
		{api.ErrRange, func() bool { return r.Begin >= r.End }},
		{api.ErrRange, func() bool { return !inText(c, r.Begin, r.End) }},
	}
	return append(append(rules, pairRules(r.Keys)...),
		rule{api.ErrOrder, func() bool { return i > 0 && rank(c.Regions[i-1]) > rank(r) }},
		rule{api.ErrCross, func() bool { return earlier(i, crossing) }},
		rule{api.ErrLimit, func() bool { return depth() > 40 }})
}

// ancestors returns the parent of a node, the parent of its parent, and so on.
func ancestors(c api.Corpus, i int) []int {
	var list []int
	for i = c.Nodes[i].Parent; i >= 0; i = c.Nodes[i].Parent {
		list = append(list, i)
	}
	return list
}

func nodeRules(c api.Corpus, i int) []rule {
	n := c.Nodes[i]
	allowed := func() bool {
		return n.Parent == -1 || i > 0 && (n.Parent == i-1 || slices.Contains(ancestors(c, i-1), n.Parent))
	}
	misplaced := func() bool {
		if n.Parent >= 0 && (n.Begin < c.Nodes[n.Parent].Begin || n.End > c.Nodes[n.Parent].End) {
			return true
		}
		for k := i - 1; k >= 0; k-- {
			if c.Nodes[k].Parent == n.Parent {
				return n.Begin < c.Nodes[k].End
			}
		}
		return false
	}
	return []rule{
		{api.ErrName, func() bool { return !markup.ValidName(n.Label) }},
		{api.ErrRange, func() bool { return n.Begin >= n.End || !inText(c, n.Begin, n.End) }},
		{api.ErrOrder, func() bool { return !allowed() }},
		{api.ErrRange, misplaced},
		{api.ErrLimit, func() bool { return 1+len(ancestors(c, i)) > 40 }},
	}
}

func headRules(c api.Corpus, i int) []rule {
	head, relation := c.Heads[i], c.Relations[i]
	cyclic := func() bool {
		at := i
		for range c.Tokens {
			if at = c.Heads[at]; at < 0 || at >= len(c.Heads) {
				return false
			}
			if at == i {
				return true
			}
		}
		return false
	}
	sameText := func(t api.Text) bool { return t.Begin <= i && i < t.End && t.Begin <= head && head < t.End }
	return []rule{
		{api.ErrRange, func() bool { return head != -1 && !slices.ContainsFunc(c.Texts, sameText) }},
		{api.ErrName, func() bool { return relation != "" && !markup.ValidName(relation) }},
		{api.ErrCycle, cyclic},
	}
}

// rank returns a string for a region such that the order of these strings is that of the regions.
func rank(r api.Region) string {
	const sign = 1 << 63
	b := binary.BigEndian.AppendUint64(nil, uint64(r.Begin)^sign)
	b = binary.BigEndian.AppendUint64(b, ^(uint64(r.End) ^ sign))
	b = appendString(b, r.Type)
	for _, p := range r.Keys {
		b = appendString(append(b, 1), p.Name)
		b = appendString(b, p.Value)
	}
	return string(append(b, 0))
}

// appendString appends a byte 1 and the byte itself for each byte of s, and then 0.
func appendString(b []byte, s string) []byte {
	for i := range len(s) {
		b = append(b, 1, s[i])
	}
	return append(b, 0)
}

// facts returns what a corpus says about a text, with all positions counted from
// its begin and all indices from its first node.
func facts(c api.Corpus, text int) []string {
	t := c.Texts[text]
	list := []string{fmt.Sprintf("attributes %v", c.Attributes), fmt.Sprintf("text %q %d %q", t.Name, t.End-t.Begin, t.Meta)}
	for i := t.Begin; i < t.End; i++ {
		head, relation := -1, ""
		if len(c.Heads) > 0 {
			head, relation = c.Heads[i], c.Relations[i]
		}
		if head != -1 {
			head -= t.Begin
		}
		list = append(list, fmt.Sprintf("token %q %d %q", c.Tokens[i], head, relation))
	}
	for _, r := range c.Regions {
		if t.Begin <= r.Begin && r.End <= t.End {
			list = append(list, fmt.Sprintf("region %s %d %d %q", r.Type, r.Begin-t.Begin, r.End-t.Begin, r.Keys))
		}
	}
	numbers := map[int]int{-1: -1}
	for i, n := range c.Nodes {
		if t.Begin <= n.Begin && n.End <= t.End {
			numbers[i] = len(numbers) - 1
			list = append(list, fmt.Sprintf("node %s %d %d %d", n.Label, n.Begin-t.Begin, n.End-t.Begin, numbers[n.Parent]))
		}
	}
	return list
}

// hasHeads reports whether one of the facts is a head or a relation.
func hasHeads(c api.Corpus) bool {
	for i := range c.Heads {
		if c.Heads[i] != -1 || c.Relations[i] != "" {
			return true
		}
	}
	return false
}

// checkCorpus compares Validate with the reference, and divides and joins what is valid.
func checkCorpus(t *testing.T, c api.Corpus) {
	t.Helper()
	got, want := validating(c), validate(c)
	if got != want {
		t.Fatalf("Validate(%+v) = %v; expected %v", c, got, want)
	}
	if got.e == api.OK {
		checkDocuments(t, c)
		return
	}
	if d, e := corpus.Extract(c, 0); e != api.ErrArg || !corpus.Equal(d, api.Corpus{}) {
		t.Fatalf("Extract(%+v, 0) = %+v, %d", c, d, e)
	}
	if d, e := corpus.Concat(c, c); e != api.ErrArg || !corpus.Equal(d, api.Corpus{}) {
		t.Fatalf("Concat(%+v, the same) = %+v, %d", c, d, e)
	}
}

// checkDocuments compares the documents of a corpus with their texts, and joins them again.
func checkDocuments(t *testing.T, c api.Corpus) {
	t.Helper()
	before := fmt.Sprint(c)
	all := api.Corpus{Attributes: c.Attributes}
	for i := range c.Texts {
		d, e := corpus.Extract(c, i)
		if e != api.OK || validate(d).e != api.OK || len(d.Texts) != 1 || d.Texts[0].Begin != 0 {
			t.Fatalf("Extract(%+v, %d) = %+v, %d", c, i, d, e)
		}
		if !slices.Equal(facts(d, 0), facts(c, i)) || (len(d.Heads) > 0) != hasHeads(d) {
			t.Fatalf("Extract(%+v, %d) = %+v", c, i, d)
		}
		if all, e = corpus.Concat(all, d); e != api.OK {
			t.Fatalf("Concat with text %d of %+v: %d", i, c, e)
		}
	}
	if !corpus.Equal(all, c) {
		t.Fatalf("the documents of %+v make %+v", c, all)
	}
	if fmt.Sprint(c) != before {
		t.Fatalf("the corpus has changed from %s to %v", before, c)
	}
}

// random returns a function that returns the numbers of a fixed sequence without an obvious order.
func random(seed uint64) func(below int) int {
	state := seed
	return func(below int) int {
		state = state*6364136223846793005 + 1442695040888963407
		return int(state >> 33 % uint64(below))
	}
}

// pick returns one of the elements.
func pick[T any](next func(int) int, list ...T) T {
	return list[next(len(list))]
}
