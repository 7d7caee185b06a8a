package corpus_test

import (
	"fmt"
	"math"
	"slices"
	"strconv"
	"strings"
	"testing"

	"corpora/api"
	"corpora/corpus"
)

// P6.1

func TestCompareRegions(t *testing.T) {
	a, b := api.Pair{Name: "a", Value: "2"}, api.Pair{Name: "b", Value: "1"}
	rising := []api.Region{
		region("z", math.MinInt, math.MinInt), region("z", -1, 0), region("z", 0, math.MaxInt), region("z", 0, 9), region("a", 0, 8),
		region("", 0, 5), region("B", 0, 5), region("a", 0, 5), region("a", 0, 5, api.Pair{}), region("a", 0, 5, api.Pair{Value: "x"}),
		region("a", 0, 5, api.Pair{Name: "a", Value: "10"}), region("a", 0, 5, a), region("a", 0, 5, a, a), region("a", 0, 5, a, b), region("a", 0, 5, a, b, a),
		region("a", 0, 5, api.Pair{Name: "a", Value: "3"}), region("a", 0, 5, api.Pair{Name: "aa"}), region("a", 0, 5, b), region("a", 0, 5, b, a),
		region("a ", 0, 5), region("aa", 0, 5), region("b", 0, 5), region("\xff", 0, 5), region("a", 0, 4), region("a", 0, -1), region("a", 0, math.MinInt),
		region("a", 1, 2), region("a", math.MaxInt, math.MaxInt), region("a", math.MaxInt, 0),
	}
	for i, x := range rising {
		for k, y := range rising {
			want := 0
			if i < k {
				want = -1
			} else if i > k {
				want = 1
			}
			if got := corpus.CompareRegions(x, y); got != want {
				t.Errorf("CompareRegions(%+v, %+v) = %d", x, y, got)
			}
		}
	}
	if got := corpus.CompareRegions(api.Region{Keys: []api.Pair{}}, api.Region{}); got != 0 {
		t.Errorf("empty and nil lists of keys: %d", got)
	}
}

func TestSortRegions(t *testing.T) {
	next := random(61)
	for size := range 60 {
		var list []api.Region
		var want []string
		for range size {
			begin := next(4)
			r := region(pick(next, "a", "b"), begin, begin+next(4), generatePairs(next)...)
			list = append(list, r)
			want = append(want, rank(r))
		}
		slices.Sort(want)
		before := fmt.Sprint(list)
		sorted := corpus.SortRegions(list)
		if fmt.Sprint(list) != before {
			t.Fatalf("SortRegions has changed its argument from %s to %v", before, list)
		}
		var got []string
		for _, r := range sorted {
			got = append(got, rank(r))
		}
		if !slices.Equal(got, want) {
			t.Fatalf("SortRegions(%+v) = %+v", list, sorted)
		}
	}
}

func TestSortRegionsOfAnyRegions(t *testing.T) {
	for _, list := range [][]api.Region{nil, {}, {region("", 5, -3)}} {
		if got := corpus.SortRegions(list); len(got) != len(list) {
			t.Errorf("SortRegions(%+v) = %+v", list, got)
		}
	}
	var list []api.Region
	for i := range 5000 {
		list = append(list, region("s", -i, math.MaxInt))
	}
	sorted := corpus.SortRegions(list)
	slices.Reverse(list)
	for i := range list {
		if sorted[i].Begin != list[i].Begin {
			t.Fatalf("region %d of 5000: %+v", i, sorted[i])
		}
	}
}

func TestSortRegionsReturnsNewMemory(t *testing.T) {
	shared := []api.Pair{{Name: "n", Value: "1"}}
	list := make([]api.Region, 2, 3)
	list[0], list[1] = region("s", 0, 1, shared...), region("s", 0, 1, shared...)
	got := corpus.SortRegions(list)
	got[0].Keys[0].Value = "2"
	_ = append(got[1].Keys, api.Pair{Name: "o"})
	_ = append(got, region("t", 0, 1))
	if shared[0].Value != "1" || got[1].Keys[0].Value != "1" || list[:3][2].Type != "" || list[0].Keys[0].Value != "1" {
		t.Errorf("SortRegions shares memory: %+v, %+v", list, got)
	}
}

// P6.3

// small returns a corpus of one text with this name and number of tokens.
func small(name string, size int) api.Corpus {
	c := api.Corpus{Attributes: []api.Attribute{{Name: "w"}}, Texts: []api.Text{{Name: name, Begin: 0, End: size}}}
	for range size {
		c.Tokens = append(c.Tokens, []string{name})
	}
	return c
}

func TestConcat(t *testing.T) {
	a := sample()
	b := api.Corpus{
		Attributes: a.Attributes,
		Tokens:     [][]string{{"the", "|", "D"}, {"end", "|", "N"}},
		Texts:      []api.Text{{Name: "a", Begin: 0, End: 1, Meta: []api.Pair{{Name: "k", Value: "v"}}}, {Name: "b", Begin: 1, End: 2}},
		Regions:    []api.Region{region("s", 0, 1, api.Pair{Name: "n", Value: "1"}), region("s", 1, 2)},
		Nodes:      []api.Node{{Label: "A", Begin: 0, End: 1, Parent: -1}, {Label: "B", Begin: 0, End: 1, Parent: 0}, {Label: "C", Begin: 0, End: 1, Parent: 1}, {Label: "D", Begin: 1, End: 2, Parent: -1}},
	}
	want := sample()
	want.Tokens = append(want.Tokens, b.Tokens...)
	want.Texts = append(want.Texts, api.Text{Name: "a", Begin: 7, End: 8, Meta: []api.Pair{{Name: "k", Value: "v"}}}, api.Text{Name: "b", Begin: 8, End: 9})
	want.Regions = append(want.Regions, region("s", 7, 8, api.Pair{Name: "n", Value: "1"}), region("s", 8, 9))
	want.Nodes = append(want.Nodes, api.Node{Label: "A", Begin: 7, End: 8, Parent: -1}, api.Node{Label: "B", Begin: 7, End: 8, Parent: 7}, api.Node{Label: "C", Begin: 7, End: 8, Parent: 8}, api.Node{Label: "D", Begin: 8, End: 9, Parent: -1})
	want.Heads = append(want.Heads, -1, -1)
	want.Relations = append(want.Relations, "", "")
	checkConcat(t, a, b, want)
	want.Heads, want.Relations = nil, nil
	a.Heads, a.Relations = nil, nil
	checkConcat(t, a, b, want)
	want.Heads, want.Relations = []int{-1, -1, -1, -1, -1, -1, -1, -1, -1}, []string{"", "", "", "", "", "", "", "", "root"}
	b.Heads, b.Relations = []int{-1, -1}, []string{"", "root"}
	checkConcat(t, a, b, want)
}

// checkConcat compares the result of Concat field by field with what is expected.
func checkConcat(t *testing.T, a, b, want api.Corpus) {
	t.Helper()
	before := fmt.Sprint(a, b)
	got, e := corpus.Concat(a, b)
	if fmt.Sprintf("%+v", got) != fmt.Sprintf("%+v", want) || e != api.OK {
		t.Errorf("Concat = %+v, %d; expected %+v", got, e, want)
	}
	if fmt.Sprint(a, b) != before {
		t.Errorf("Concat has changed its arguments from %s to %v", before, []api.Corpus{a, b})
	}
	checkCorpus(t, got)
}

func TestConcatOfHeads(t *testing.T) {
	with := func(name string, heads []int, relations ...string) api.Corpus {
		c := small(name, 2)
		c.Heads, c.Relations = heads, relations
		return c
	}
	all := func(heads []int, relations ...string) api.Corpus {
		c := with("a", heads, relations...)
		c.Tokens = append(c.Tokens, []string{"b"}, []string{"b"})
		c.Texts = append(c.Texts, api.Text{Name: "b", Begin: 2, End: 4})
		return c
	}
	checkConcat(t, with("a", []int{1, -1}, "x", ""), with("b", []int{-1, 0}, "", "y"), all([]int{1, -1, -1, 2}, "x", "", "", "y"))
	checkConcat(t, with("a", nil), with("b", []int{-1, 0}, "", "y"), all([]int{-1, -1, -1, 2}, "", "", "", "y"))
	checkConcat(t, with("a", []int{1, -1}, "x", ""), with("b", nil), all([]int{1, -1, -1, -1}, "x", "", "", ""))
	checkConcat(t, with("a", nil), with("b", []int{-1, -1}, "z", ""), all([]int{-1, -1, -1, -1}, "", "", "z", ""))
	checkConcat(t, with("a", nil), with("b", nil), all(nil))
}

func TestConcatWithNothing(t *testing.T) {
	c := sample()
	nothing := api.Corpus{Attributes: c.Attributes}
	checkConcat(t, c, nothing, c)
	checkConcat(t, nothing, c, c)
	checkConcat(t, nothing, nothing, nothing)
}

func TestConcatErrors(t *testing.T) {
	good, bad, other, late := sample(), sample(), sample(), sample()
	bad.Texts = nil
	other.Attributes[0].Name = "form"
	late.Texts[0].Name, late.Texts[1].Name = "v", "u"
	fewer := api.Corpus{Attributes: good.Attributes[:2]}
	turned := api.Corpus{Attributes: []api.Attribute{{Name: "word"}, {Name: "tag"}, {Name: "case", Set: true}}}
	noSet := api.Corpus{Attributes: []api.Attribute{{Name: "word"}, {Name: "case"}, {Name: "tag"}}}
	for i, x := range []struct {
		a, b api.Corpus
		e    api.Errno
	}{
		{bad, good, api.ErrArg},
		{good, bad, api.ErrArg},
		{api.Corpus{}, good, api.ErrArg},
		{good, api.Corpus{}, api.ErrArg},
		{api.Corpus{}, api.Corpus{}, api.ErrArg},
		{other, bad, api.ErrArg},
		{other, good, api.ErrType},
		{good, fewer, api.ErrType},
		{fewer, good, api.ErrType},
		{good, turned, api.ErrType},
		{good, noSet, api.ErrType},
		{noSet, good, api.ErrType},
		{good, good, api.ErrDuplicate},
		{good, late, api.ErrDuplicate},
		{late, good, api.ErrDuplicate},
		{small("a", 4096), small("a", 1), api.ErrDuplicate},
		{small("a", 4096), small("b", 1), api.ErrLimit},
		{small("a", 1), small("b", 4096), api.ErrLimit},
	} {
		if got, e := corpus.Concat(x.a, x.b); e != x.e || !corpus.Equal(got, api.Corpus{}) {
			t.Errorf("%d: Concat = %+v, %d; expected %d", i, got, e, x.e)
		}
	}
}

func TestConcatLimits(t *testing.T) {
	texts := func(name string, n int) api.Corpus {
		c := small(name, n)
		c.Texts = nil
		for i := range n {
			c.Texts = append(c.Texts, api.Text{Name: name + strconv.Itoa(i), Begin: i, End: i + 1})
		}
		return c
	}
	regions := func(name string, n int) api.Corpus {
		c := small(name, n)
		for i := range n {
			c.Regions = append(c.Regions, region("s", i, i+1))
		}
		return c
	}
	nodes := func(name string, n int) api.Corpus {
		c := small(name, n)
		for i := range n {
			c.Nodes = append(c.Nodes, node(i, i+1, -1))
		}
		return c
	}
	for name, x := range map[string]struct {
		many  func(name string, n int) api.Corpus
		limit int
	}{"tokens": {small, 4096}, "texts": {texts, 64}, "regions": {regions, 1024}, "nodes": {nodes, 2048}} {
		a, b, more := x.many("a", x.limit-3), x.many("b", 3), x.many("b", 4)
		got, e := corpus.Concat(a, b)
		if e != api.OK || validate(got).e != api.OK || len(got.Tokens) != x.limit || !slices.Equal(facts(got, len(a.Texts)), facts(b, 0)) {
			t.Errorf("%d %s: %d", x.limit, name, e)
		}
		for _, pair := range [][2]api.Corpus{{a, more}, {more, a}} {
			if got, e := corpus.Concat(pair[0], pair[1]); e != api.ErrLimit || !corpus.Equal(got, api.Corpus{}) {
				t.Errorf("%d %s: %d", x.limit+1, name, e)
			}
		}
	}
}

func TestConcatOfRandomCorpora(t *testing.T) {
	next := random(63)
	for range 5000 {
		a, b := generate(next), generate(next)
		for i := range b.Texts {
			b.Texts[i].Name = "u" + strconv.Itoa(i)
		}
		if validate(a).e != api.OK || validate(b).e != api.OK || len(a.Attributes) != len(b.Attributes) {
			continue
		}
		got, e := corpus.Concat(a, b)
		var want, have [][]string
		for i := range a.Texts {
			want = append(want, facts(a, i))
		}
		for i := range b.Texts {
			want = append(want, facts(b, i))
		}
		for i := range got.Texts {
			have = append(have, facts(got, i))
		}
		if e != api.OK || !slices.EqualFunc(have, want, slices.Equal) || (len(got.Heads) > 0) != (hasHeads(a) || hasHeads(b)) {
			t.Fatalf("Concat(%+v, %+v) = %+v, %d", a, b, got, e)
		}
		checkCorpus(t, got)
	}
}

// overwrite changes everything in a corpus that could be shared.
func overwrite(c api.Corpus) {
	for i := range c.Attributes {
		c.Attributes[i].Name = "overwritten"
	}
	for _, values := range c.Tokens {
		values[0] = "overwritten"
		_ = append(values, "overwritten")
	}
	for _, t := range c.Texts {
		overwritePairs(t.Meta)
	}
	for _, r := range c.Regions {
		overwritePairs(r.Keys)
	}
	_ = append(c.Attributes, api.Attribute{Name: "overwritten"})
	_ = append(c.Tokens, []string{"overwritten"})
	_ = append(c.Texts, api.Text{Name: "overwritten"})
	_ = append(c.Regions, api.Region{Type: "overwritten"})
	_ = append(c.Nodes, api.Node{Label: "overwritten"})
	_ = append(c.Heads, 99)
	_ = append(c.Relations, "overwritten")
	clear(c.Tokens)
	clear(c.Texts)
	clear(c.Regions)
	clear(c.Nodes)
	clear(c.Heads)
	clear(c.Relations)
}

func overwritePairs(pairs []api.Pair) {
	for i := range pairs {
		pairs[i].Value = "overwritten"
	}
	_ = append(pairs, api.Pair{Name: "overwritten"})
}

func TestResultsAreNewMemory(t *testing.T) {
	c := sample()
	c.Tokens[3] = c.Tokens[2] // lists of an argument may share memory, but not those of a result
	c.Texts[1].Meta = c.Texts[0].Meta
	want := fmt.Sprint(c)
	first, _ := corpus.Extract(c, 0)
	second, _ := corpus.Extract(c, 1)
	again, _ := corpus.Extract(c, 1)
	first.Tokens[2][0] = "changed"
	if first.Tokens[3][0] != "man" {
		t.Error("two tokens of a result of Extract share memory")
	}
	overwrite(first)
	if fmt.Sprint(c) != want || !corpus.Equal(second, again) {
		t.Error("Extract shares memory with its argument or an earlier result")
	}
	before := fmt.Sprint(again)
	nothing := api.Corpus{Attributes: c.Attributes}
	for _, pair := range [][2]api.Corpus{{c, nothing}, {nothing, c}, {nothing, again}, {again, nothing}} {
		joined, e := corpus.Concat(pair[0], pair[1])
		if e != api.OK {
			t.Fatal(e)
		}
		if len(joined.Texts) == 2 {
			joined.Texts[0].Meta[0].Value = "changed"
			if joined.Texts[1].Meta[0].Value != "x" {
				t.Error("two texts of a result of Concat share memory")
			}
		}
		overwrite(joined)
		if fmt.Sprint(c) != want || fmt.Sprint(again) != before {
			t.Error("Concat shares memory with its arguments")
		}
	}
}

// P6.4

func TestExtract(t *testing.T) {
	c := sample()
	one, two := sample(), sample()
	one.Tokens, one.Texts, one.Regions, one.Nodes, one.Heads, one.Relations = one.Tokens[:4], one.Texts[:1], one.Regions[:4], one.Nodes[:4], one.Heads[:4], one.Relations[:4]
	two.Tokens, two.Texts = two.Tokens[4:], []api.Text{{Name: "u", Begin: 0, End: 3}}
	two.Regions = []api.Region{region("s", 0, 3, api.Pair{Name: "m", Value: "&"}, api.Pair{Name: "n", Value: "2"}), region("np", 0, 1)}
	two.Nodes = []api.Node{{Label: "NP", Begin: 0, End: 1, Parent: -1}, {Label: "VP", Begin: 1, End: 3, Parent: -1}, {Label: "V", Begin: 2, End: 3, Parent: 1}}
	two.Heads, two.Relations = []int{2, -1, -1}, []string{"subj", "", "root"}
	for i, want := range []api.Corpus{one, two} {
		got, e := corpus.Extract(c, i)
		if e != api.OK || fmt.Sprintf("%+v", got) != fmt.Sprintf("%+v", want) {
			t.Errorf("Extract(%d) = %+v, %d; expected %+v", i, got, e, want)
		}
	}
}

func TestExtractExample(t *testing.T) {
	c := api.Corpus{
		Attributes: []api.Attribute{{Name: "word"}},
		Tokens:     [][]string{{"a"}, {"b"}, {"c"}},
		Texts:      []api.Text{{Name: "x", Begin: 0, End: 2}, {Name: "y", Begin: 2, End: 3}},
		Regions:    []api.Region{{Type: "s", Begin: 0, End: 2}},
	}
	got, e := corpus.Extract(c, 1)
	want := api.Corpus{Attributes: c.Attributes, Tokens: [][]string{{"c"}}, Texts: []api.Text{{Name: "y", Begin: 0, End: 1}}}
	if e != api.OK || fmt.Sprint(got) != fmt.Sprint(want) {
		t.Errorf("Extract = %+v, %d", got, e)
	}
}

func TestExtractOfHeads(t *testing.T) {
	c := sample()
	c.Heads, c.Relations = []int{-1, -1, -1, -1, -1, 6, -1}, make([]string, 7)
	for i, want := range [][]int{nil, {-1, 2, -1}} {
		if d, e := corpus.Extract(c, i); e != api.OK || !slices.Equal(d.Heads, want) || len(d.Relations) != len(want) {
			t.Errorf("heads of text %d: %+v, %d", i, d, e)
		}
	}
	c.Heads, c.Relations = []int{-1, -1, -1, -1, -1, -1, -1}, []string{"", "", "x", "", "", "", ""}
	for i, want := range [][]string{{"", "", "x", ""}, nil} {
		if d, e := corpus.Extract(c, i); e != api.OK || !slices.Equal(d.Relations, want) || len(d.Heads) != len(want) {
			t.Errorf("relations of text %d: %+v, %d", i, d, e)
		}
	}
}

func TestExtractErrors(t *testing.T) {
	c, bad := sample(), sample()
	bad.Heads = bad.Heads[1:]
	for i, x := range []struct {
		c    api.Corpus
		text int
		e    api.Errno
	}{
		{bad, 0, api.ErrArg},
		{bad, 2, api.ErrArg},
		{api.Corpus{}, 0, api.ErrArg},
		{c, -1, api.ErrRange},
		{c, 2, api.ErrRange},
		{c, math.MinInt, api.ErrRange},
		{c, math.MaxInt, api.ErrRange},
		{api.Corpus{Attributes: c.Attributes}, 0, api.ErrRange},
	} {
		if got, e := corpus.Extract(x.c, x.text); e != x.e || !corpus.Equal(got, api.Corpus{}) {
			t.Errorf("%d: Extract = %+v, %d; expected %d", i, got, e, x.e)
		}
	}
}

// P6.5

func TestDocumentsOfACorpusMakeTheCorpus(t *testing.T) {
	checkDocuments(t, sample())
	joined := api.Corpus{Attributes: sample().Attributes}
	for i := range 9 {
		next := sample()
		next.Texts[0].Name, next.Texts[1].Name = "t"+strconv.Itoa(i), "u"+strconv.Itoa(i)
		if i%3 > 0 {
			next.Heads, next.Relations = nil, nil
		}
		joined, _ = corpus.Concat(joined, next)
		if len(joined.Texts) != 2*i+2 {
			t.Fatalf("%d texts", len(joined.Texts))
		}
		checkDocuments(t, joined)
	}
}

// P6.6

func TestEqual(t *testing.T) {
	different := []func(c *api.Corpus){
		func(c *api.Corpus) {},
		func(c *api.Corpus) { c.Attributes[0].Name = "Word" },
		func(c *api.Corpus) { c.Attributes[0].Set = true },
		func(c *api.Corpus) { c.Attributes = c.Attributes[:2] },
		func(c *api.Corpus) { c.Attributes = nil },
		func(c *api.Corpus) { c.Tokens[6][2] = "W" },
		func(c *api.Corpus) { c.Tokens[0][0] = "The" },
		func(c *api.Corpus) { c.Tokens[6] = c.Tokens[6][:2] },
		func(c *api.Corpus) { c.Tokens[6] = append(c.Tokens[6], "") },
		func(c *api.Corpus) { c.Tokens = c.Tokens[:6] },
		func(c *api.Corpus) { c.Tokens[0], c.Tokens[1] = c.Tokens[1], c.Tokens[0] },
		func(c *api.Corpus) { c.Texts[1].Name = "U" },
		func(c *api.Corpus) { c.Texts[1].Begin = 3 },
		func(c *api.Corpus) { c.Texts[1].End = 8 },
		func(c *api.Corpus) { c.Texts[0].Meta[1].Value = "y" },
		func(c *api.Corpus) { c.Texts[0].Meta[1].Name = "of" },
		func(c *api.Corpus) { c.Texts[0].Meta = c.Texts[0].Meta[:1] },
		func(c *api.Corpus) { c.Texts[1].Meta = make([]api.Pair, 1) },
		func(c *api.Corpus) { c.Texts = c.Texts[:1] },
		func(c *api.Corpus) { c.Regions[5].Type = "NP" },
		func(c *api.Corpus) { c.Regions[5].Begin = 3 },
		func(c *api.Corpus) { c.Regions[5].End = 6 },
		func(c *api.Corpus) { c.Regions[4].Keys[1].Value = "" },
		func(c *api.Corpus) { c.Regions[4].Keys[0].Name = "l" },
		func(c *api.Corpus) { c.Regions[4].Keys = nil },
		func(c *api.Corpus) { c.Regions[0], c.Regions[1] = c.Regions[1], c.Regions[0] },
		func(c *api.Corpus) { c.Regions = c.Regions[1:] },
		func(c *api.Corpus) { c.Nodes[6].Label = "v" },
		func(c *api.Corpus) { c.Nodes[6].Begin = 5 },
		func(c *api.Corpus) { c.Nodes[6].End = 6 },
		func(c *api.Corpus) { c.Nodes[6].Parent = -1 },
		func(c *api.Corpus) { c.Nodes = c.Nodes[:6] },
		func(c *api.Corpus) { c.Heads[6] = 0 },
		func(c *api.Corpus) { c.Heads = c.Heads[:6] },
		func(c *api.Corpus) { c.Heads = nil },
		func(c *api.Corpus) { c.Relations[6] = "" },
		func(c *api.Corpus) { c.Relations = append(c.Relations, "") },
		func(c *api.Corpus) { c.Relations = nil },
		func(c *api.Corpus) { *c = api.Corpus{} },
	}
	for i, a := range different {
		for k, b := range different {
			if got := corpus.Equal(changedSample(a), changedSample(b)); got != (i == k) {
				t.Errorf("Equal of the changes %d and %d: %t", i, k, got)
			}
		}
	}
}

func TestEqualOfEmptyLists(t *testing.T) {
	nils := api.Corpus{Tokens: [][]string{nil}, Texts: []api.Text{{}}, Regions: []api.Region{{}}}
	empty := api.Corpus{Attributes: []api.Attribute{}, Tokens: [][]string{{}}, Texts: []api.Text{{Meta: []api.Pair{}}}, Regions: []api.Region{{Keys: []api.Pair{}}}, Nodes: []api.Node{}, Heads: []int{}, Relations: []string{}}
	lists := api.Corpus{Attributes: []api.Attribute{}, Tokens: [][]string{}, Texts: []api.Text{}, Regions: []api.Region{}, Nodes: []api.Node{}, Heads: []int{}, Relations: []string{}}
	for _, x := range [][2]api.Corpus{{nils, empty}, {empty, nils}, {lists, {}}, {{}, lists}} {
		if !corpus.Equal(x[0], x[1]) {
			t.Errorf("Equal(%+v, %+v) = false", x[0], x[1])
		}
	}
	if corpus.Equal(nils, lists) {
		t.Error("lists of different lengths are equal")
	}
}

func TestFindText(t *testing.T) {
	odd := api.Corpus{Texts: []api.Text{{Name: "a", Begin: 3, End: 9}, {Name: ""}, {Name: "9 \xff"}, {Name: "a"}, {Name: ""}, {Name: "b"}}}
	for name, want := range map[string]int{"a": 0, "": 1, "9 \xff": 2, "b": 5, "A": -1, "aa": -1, strings.Repeat("n", 1<<16): -1} {
		if got := corpus.FindText(odd, name); got != want {
			t.Errorf("FindText(%q) = %d; expected %d", name, got, want)
		}
	}
	if got := corpus.FindText(api.Corpus{}, ""); got != -1 {
		t.Errorf("FindText without texts = %d", got)
	}
}

func TestTextAt(t *testing.T) {
	for pos, want := range map[int]int{math.MinInt: -1, -1: -1, 0: 0, 3: 0, 4: 1, 6: 1, 7: -1, math.MaxInt: -1} {
		if got := corpus.TextAt(sample(), pos); got != want {
			t.Errorf("TextAt(%d) = %d; expected %d", pos, got, want)
		}
	}
	odd := api.Corpus{Texts: []api.Text{{Begin: 5, End: 3}, {Begin: 4, End: 6}, {Begin: math.MinInt, End: 5}, {Begin: 8, End: 8}, {Begin: 7, End: math.MaxInt}}}
	for pos, want := range map[int]int{math.MinInt: 2, 3: 2, 4: 1, 5: 1, 6: -1, 7: 4, 8: 4, math.MaxInt - 1: 4, math.MaxInt: -1} {
		if got := corpus.TextAt(odd, pos); got != want {
			t.Errorf("TextAt(%d) = %d; expected %d", pos, got, want)
		}
	}
	if got := corpus.TextAt(api.Corpus{}, 0); got != -1 {
		t.Errorf("TextAt without texts = %d", got)
	}
}

func FuzzCorpus(f *testing.F) {
	f.Add(uint64(1))
	f.Fuzz(func(t *testing.T, seed uint64) {
		next := random(seed)
		c := generate(next)
		checkCorpus(t, c)
		spoil(next, &c)
		checkCorpus(t, c)
	})
}
