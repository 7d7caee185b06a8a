package corpus_test

import (
	"math"
	"slices"
	"strconv"
	"strings"
	"testing"

	"corpora/api"
)

// P6.2

// changes is a list of changes of the sample, with what Validate returns for each.
type changes []struct {
	name   string
	change func(c *api.Corpus)
	index  int
	e      api.Errno
}

// checkChanges expects errors in one part of the changed sample.
func checkChanges(t *testing.T, part int, list changes) {
	t.Helper()
	for _, x := range list {
		want := finding{part, x.index, x.e}
		if x.e == api.OK {
			want = finding{}
		}
		c := changedSample(x.change)
		if got := validating(c); got != want {
			t.Errorf("%s: Validate = %v; expected %v", x.name, got, want)
		}
		checkCorpus(t, c)
	}
}

func TestValidateOfValidCorpora(t *testing.T) {
	checkChanges(t, 0, changes{
		{"the sample", func(c *api.Corpus) {}, 0, api.OK},
		{"attributes alone", func(c *api.Corpus) { *c = api.Corpus{Attributes: c.Attributes} }, 0, api.OK},
		{"no regions", func(c *api.Corpus) { c.Regions = nil }, 0, api.OK},
		{"no nodes", func(c *api.Corpus) { c.Nodes = []api.Node{} }, 0, api.OK},
		{"no heads", func(c *api.Corpus) { c.Heads, c.Relations = nil, []string{} }, 0, api.OK},
	})
}

func TestValidateExample(t *testing.T) {
	c := api.Corpus{
		Attributes: []api.Attribute{{Name: "word"}},
		Tokens:     [][]string{{"a"}, {"b"}, {"c"}},
		Texts:      []api.Text{{Name: "x", Begin: 0, End: 2}, {Name: "y", Begin: 2, End: 3}},
		Regions:    []api.Region{{Type: "s", Begin: 1, End: 3}},
	}
	if got := validating(c); got != (finding{4, 0, api.ErrRange}) {
		t.Errorf("Validate = %v", got)
	}
	c.Regions[0] = api.Region{Type: "s", Begin: 0, End: 2}
	if got := validating(c); got != (finding{}) {
		t.Errorf("Validate = %v", got)
	}
}

func TestValidateAttributes(t *testing.T) {
	many := func(n int) func(c *api.Corpus) {
		return func(c *api.Corpus) {
			*c = api.Corpus{}
			for i := range n {
				c.Attributes = append(c.Attributes, api.Attribute{Name: "a" + strconv.Itoa(i)})
			}
		}
	}
	checkChanges(t, api.PartAttributes, changes{
		{"none", func(c *api.Corpus) { c.Attributes = nil }, 0, api.ErrCount},
		{"nothing at all", func(c *api.Corpus) { *c = api.Corpus{} }, 0, api.ErrCount},
		{"8", many(8), 0, api.OK},
		{"9", many(9), 0, api.ErrLimit},
		{"9 without names", func(c *api.Corpus) { c.Attributes = make([]api.Attribute, 9) }, 0, api.ErrLimit},
		{"no name", func(c *api.Corpus) { c.Attributes[0].Name = "" }, 0, api.ErrName},
		{"a wrong name", func(c *api.Corpus) { c.Attributes[2].Name = "a b" }, 2, api.ErrName},
		{"a long name", func(c *api.Corpus) { c.Attributes[1].Name = strings.Repeat("n", 33) }, 1, api.ErrName},
		{"a name of 32 bytes", func(c *api.Corpus) { c.Attributes[1].Name = strings.Repeat("n", 32) }, 0, api.OK},
		{"a name twice", func(c *api.Corpus) { c.Attributes[2].Name = "word" }, 2, api.ErrDuplicate},
		{"a wrong name twice", func(c *api.Corpus) { c.Attributes[1].Name, c.Attributes[2].Name = "9", "9" }, 1, api.ErrName},
		{"other letters", func(c *api.Corpus) { c.Attributes[2].Name = "Word" }, 0, api.OK},
		{"a duplicate in front of a wrong name", func(c *api.Corpus) { c.Attributes[1].Name, c.Attributes[2].Name = "word", "" }, 1, api.ErrDuplicate},
		{"before the tokens", func(c *api.Corpus) { c.Attributes[2].Name, c.Tokens[0] = "word", nil }, 2, api.ErrDuplicate},
	})
}

func TestValidateTokens(t *testing.T) {
	checkChanges(t, api.PartTokens, changes{
		{"4097", func(c *api.Corpus) { c.Tokens = make([][]string, 4097) }, 0, api.ErrLimit},
		{"4096 without values", func(c *api.Corpus) { c.Tokens = make([][]string, 4096) }, 0, api.ErrCount},
		{"too few values", func(c *api.Corpus) { c.Tokens[3] = []string{"\n", "|"} }, 3, api.ErrCount},
		{"too many values", func(c *api.Corpus) { c.Tokens[6] = append(c.Tokens[6], "") }, 6, api.ErrCount},
		{"no values", func(c *api.Corpus) { c.Tokens[6] = nil }, 6, api.ErrCount},
		{"a control character", func(c *api.Corpus) { c.Tokens[5][0] = "\t" }, 5, api.ErrValue},
		{"a wrong encoding", func(c *api.Corpus) { c.Tokens[5][2] = "\xff" }, 5, api.ErrEncoding},
		{"a long value", func(c *api.Corpus) { c.Tokens[5][2] = strings.Repeat("v", 121) }, 5, api.ErrLimit},
		{"a value of 120 bytes", func(c *api.Corpus) { c.Tokens[5][2] = strings.Repeat("v", 120) }, 0, api.OK},
		{"no set", func(c *api.Corpus) { c.Tokens[1][1] = "Nom" }, 1, api.ErrSyntax},
		{"an empty set", func(c *api.Corpus) { c.Tokens[1][1] = "" }, 1, api.ErrSyntax},
		{"an unsorted set", func(c *api.Corpus) { c.Tokens[1][1] = "|b|a|" }, 1, api.ErrOrder},
		{"a set with a control character", func(c *api.Corpus) { c.Tokens[1][1] = "|\x7f|" }, 1, api.ErrValue},
		{"a set that need not be one", func(c *api.Corpus) { c.Tokens[1][0], c.Tokens[1][2] = "|b|a|", "||" }, 0, api.OK},
		{"the first of the values", func(c *api.Corpus) { c.Tokens[1] = []string{"\n", "", "\xff"} }, 1, api.ErrValue},
		{"the second of the values", func(c *api.Corpus) { c.Tokens[1] = []string{"", "", "\xff"} }, 1, api.ErrSyntax},
		{"the first of the tokens", func(c *api.Corpus) { c.Tokens[2][2], c.Tokens[1][2] = "\n", "\xff" }, 1, api.ErrEncoding},
		{"before the texts", func(c *api.Corpus) { c.Tokens[6][0], c.Texts = "\n", nil }, 6, api.ErrValue},
	})
}

func TestValidateTexts(t *testing.T) {
	many := func(n int) func(c *api.Corpus) {
		return func(c *api.Corpus) {
			*c = api.Corpus{Attributes: c.Attributes}
			for i := range n {
				c.Tokens = append(c.Tokens, []string{"", "|", ""})
				c.Texts = append(c.Texts, api.Text{Name: "t" + strconv.Itoa(i), Begin: i, End: i + 1})
			}
		}
	}
	checkChanges(t, api.PartTexts, changes{
		{"64", many(64), 0, api.OK},
		{"65", many(65), 0, api.ErrLimit},
		{"65 without tokens", func(c *api.Corpus) { c.Texts, c.Tokens = make([]api.Text, 65), nil }, 0, api.ErrLimit},
		{"none", func(c *api.Corpus) { c.Texts = nil }, 0, api.ErrCount},
		{"no tokens", func(c *api.Corpus) { c.Tokens = nil }, 0, api.ErrCount},
		{"no tokens and wrong texts", func(c *api.Corpus) { c.Tokens, c.Texts[0] = nil, api.Text{} }, 0, api.ErrCount},
		{"no name", func(c *api.Corpus) { c.Texts[0].Name = "" }, 0, api.ErrName},
		{"no name before the range", func(c *api.Corpus) { c.Texts[1] = api.Text{Begin: 9} }, 1, api.ErrName},
		{"a name twice", func(c *api.Corpus) { c.Texts[1].Name = "t" }, 1, api.ErrDuplicate},
		{"a name twice before the range", func(c *api.Corpus) { c.Texts[1] = api.Text{Name: "t"} }, 1, api.ErrDuplicate},
		{"a late begin", func(c *api.Corpus) { c.Texts[0].Begin = 1 }, 0, api.ErrRange},
		{"a negative begin", func(c *api.Corpus) { c.Texts[0].Begin = -1 }, 0, api.ErrRange},
		{"a gap", func(c *api.Corpus) { c.Texts[1].Begin = 5 }, 1, api.ErrRange},
		{"an overlap", func(c *api.Corpus) { c.Texts[1].Begin = 3 }, 1, api.ErrRange},
		{"an empty text", func(c *api.Corpus) { c.Texts[0].End = 0 }, 0, api.ErrRange},
		{"a negative end", func(c *api.Corpus) { c.Texts[0].End = math.MinInt }, 0, api.ErrRange},
		{"an empty last text", func(c *api.Corpus) { c.Texts[0].End, c.Texts[1].Begin = 7, 7 }, 1, api.ErrRange},
		{"an end behind the tokens", func(c *api.Corpus) { c.Texts[0].End = 8 }, 0, api.ErrRange},
		{"the greatest end", func(c *api.Corpus) { c.Texts[0].End = math.MaxInt }, 0, api.ErrRange},
		{"a last end behind the tokens", func(c *api.Corpus) { c.Texts[1].End = 8 }, 1, api.ErrRange},
		{"tokens behind the last text", func(c *api.Corpus) { c.Texts[1].End = 6 }, 1, api.ErrRange},
		{"a range before the pairs", func(c *api.Corpus) { c.Texts[1].End, c.Texts[1].Meta = 6, make([]api.Pair, 9) }, 1, api.ErrRange},
		{"pairs before the next text", func(c *api.Corpus) { c.Texts[0].Meta, c.Texts[1].Name = make([]api.Pair, 1), "" }, 0, api.ErrName},
		{"before the regions", func(c *api.Corpus) { c.Texts[1].Meta, c.Regions[0].Type = make([]api.Pair, 1), "" }, 1, api.ErrName},
	})
}

// pairLists are lists of pairs with their errors.
var pairLists = []struct {
	pairs []api.Pair
	e     api.Errno
}{
	{nil, api.OK},
	{[]api.Pair{}, api.OK},
	{[]api.Pair{{Name: "a"}}, api.OK},
	{manyPairs(8), api.OK},
	{manyPairs(9), api.ErrLimit},
	{make([]api.Pair, 9), api.ErrLimit},
	{[]api.Pair{{Name: "B", Value: "<"}, {Name: "a", Value: "é"}, {Name: "aa", Value: ""}}, api.OK},
	{[]api.Pair{{Name: ""}}, api.ErrName},
	{[]api.Pair{{Name: "é"}}, api.ErrName},
	{[]api.Pair{{Name: "9", Value: "\n"}}, api.ErrName},
	{[]api.Pair{{Name: "b"}, {Name: "-"}}, api.ErrName},
	{[]api.Pair{{Name: "a"}, {Name: "a"}}, api.ErrOrder},
	{[]api.Pair{{Name: "b"}, {Name: "a", Value: "\n"}}, api.ErrOrder},
	{[]api.Pair{{Name: "a"}, {Name: "B"}}, api.ErrOrder},
	{[]api.Pair{{Name: "aa"}, {Name: "a"}, {Name: ""}}, api.ErrOrder},
	{[]api.Pair{{Name: "a"}, {Name: "c"}, {Name: "b"}}, api.ErrOrder},
	{[]api.Pair{{Name: "a", Value: "\n"}, {Name: "a"}}, api.ErrValue},
	{[]api.Pair{{Name: "a", Value: "\xff\n"}}, api.ErrEncoding},
	{[]api.Pair{{Name: "a", Value: strings.Repeat("v", 120)}}, api.OK},
	{[]api.Pair{{Name: "a", Value: strings.Repeat("v", 121)}}, api.ErrLimit},
}

func manyPairs(n int) []api.Pair {
	var pairs []api.Pair
	for i := range n {
		pairs = append(pairs, api.Pair{Name: "k" + strconv.Itoa(i), Value: "v"})
	}
	return pairs
}

func TestValidatePairs(t *testing.T) {
	for i, x := range pairLists {
		name := "pairs " + strconv.Itoa(i)
		checkChanges(t, api.PartTexts, changes{{name, func(c *api.Corpus) { c.Texts[1].Meta = x.pairs }, 1, x.e}})
		checkChanges(t, api.PartRegions, changes{{name, func(c *api.Corpus) { c.Regions[2].Keys = x.pairs }, 2, x.e}})
	}
}

// withRegions returns a change of the regions.
func withRegions(list ...api.Region) func(c *api.Corpus) {
	return func(c *api.Corpus) { c.Regions = list }
}

func region(name string, begin, end int, keys ...api.Pair) api.Region {
	return api.Region{Type: name, Begin: begin, End: end, Keys: keys}
}

func TestValidateRegions(t *testing.T) {
	one, two := api.Pair{Name: "n", Value: "1"}, api.Pair{Name: "n", Value: "2"}
	many := func(n int) []api.Region {
		var list []api.Region
		for i := range n {
			list = append(list, region("t"+strconv.Itoa(1000+i/64), i%64/16, i%64/16+1))
		}
		slices.SortStableFunc(list, func(a, b api.Region) int { return a.Begin - b.Begin })
		return list
	}
	checkChanges(t, api.PartRegions, changes{
		{"1025", withRegions(make([]api.Region, 1025)...), 0, api.ErrLimit},
		{"1024 without types", withRegions(make([]api.Region, 1024)...), 0, api.ErrName},
		{"1024 valid ones but for their number on a token", withRegions(many(1024)...), 40, api.ErrLimit},
		{"a wrong type", withRegions(region("s", 0, 1), region("s t", 1, 1)), 1, api.ErrName},
		{"empty", withRegions(region("s", 1, 1)), 0, api.ErrRange},
		{"turned", withRegions(region("s", 2, 1)), 0, api.ErrRange},
		{"before the tokens", withRegions(region("s", -1, 1)), 0, api.ErrRange},
		{"from the least to the greatest int", withRegions(region("s", math.MinInt, math.MaxInt)), 0, api.ErrRange},
		{"in two texts", withRegions(region("s", 3, 5)), 0, api.ErrRange},
		{"around two texts", withRegions(region("s", 0, 7)), 0, api.ErrRange},
		{"behind the tokens", withRegions(region("s", 6, 8)), 0, api.ErrRange},
		{"at the end", withRegions(region("s", 7, 8)), 0, api.ErrRange},
		{"each text", withRegions(region("s", 0, 4), region("s", 4, 7)), 0, api.OK},
		{"a range before the pairs", withRegions(region("s", 6, 8, api.Pair{})), 0, api.ErrRange},
		{"pairs before the order", withRegions(region("s", 2, 3), region("s", 1, 2, api.Pair{})), 1, api.ErrName},
		{"a smaller begin", withRegions(region("s", 2, 3), region("s", 1, 2)), 1, api.ErrOrder},
		{"a greater end", withRegions(region("s", 1, 2), region("s", 1, 3)), 1, api.ErrOrder},
		{"a smaller type", withRegions(region("t", 1, 2), region("s", 1, 2)), 1, api.ErrOrder},
		{"smaller keys", withRegions(region("s", 1, 2, two), region("s", 1, 2, one)), 1, api.ErrOrder},
		{"fewer keys", withRegions(region("s", 1, 2, one), region("s", 1, 2)), 1, api.ErrOrder},
		{"an equal region", withRegions(region("s", 1, 2, one), region("s", 1, 2, one)), 0, api.OK},
		{"an order before a cross", withRegions(region("s", 1, 3), region("s", 0, 2)), 1, api.ErrOrder},
		{"a cross", withRegions(region("s", 0, 2), region("s", 1, 3)), 1, api.ErrCross},
		{"a cross with equal types around", withRegions(region("s", 0, 4), region("s", 0, 2), region("s", 1, 4)), 2, api.ErrCross},
		{"a cross over others", withRegions(region("s", 0, 3), region("s", 0, 1), region("t", 0, 1), region("s", 1, 2), region("s", 2, 4)), 4, api.ErrCross},
		{"a cross of other types", withRegions(region("s", 0, 2), region("t", 1, 3), region("u", 1, 3)), 0, api.OK},
		{"a cross behind the end of another type", withRegions(region("t", 0, 3), region("s", 0, 2), region("t", 2, 4), region("s", 2, 3)), 2, api.ErrCross},
		{"adjacent", withRegions(region("s", 0, 2), region("s", 2, 4), region("s", 4, 5)), 0, api.OK},
		{"equal begins", withRegions(region("s", 0, 4), region("s", 0, 2), region("s", 0, 1)), 0, api.OK},
		{"equal ends", withRegions(region("s", 0, 4), region("s", 1, 4), region("s", 3, 4)), 0, api.OK},
		{"before the nodes", func(c *api.Corpus) { c.Regions[5].Type, c.Nodes[0].Label = "", "" }, 5, api.ErrName},
	})
}

func TestValidateDepthOfRegions(t *testing.T) {
	deep := func(n int) []api.Region { return slices.Repeat([]api.Region{region("s", 0, 2)}, n) }
	checkChanges(t, api.PartRegions, changes{
		{"40", withRegions(deep(40)...), 0, api.OK},
		{"41", withRegions(deep(41)...), 40, api.ErrLimit},
		{"the 41st at the last token", withRegions(append(deep(40), region("t", 1, 3))...), 40, api.ErrLimit},
		{"the 41st crosses", withRegions(append(deep(40), region("s", 1, 3))...), 40, api.ErrCross},
		{"the 41st behind them", withRegions(append(deep(40), region("s", 2, 3))...), 0, api.OK},
		{"40 and 40 behind them", withRegions(append(deep(40), slices.Repeat([]api.Region{region("t", 2, 4)}, 40)...)...), 0, api.OK},
		{"39 end at one token", withRegions(append(append(slices.Repeat([]api.Region{region("a", 0, 4)}, 2), slices.Repeat([]api.Region{region("b", 0, 1)}, 38)...), slices.Repeat([]api.Region{region("c", 1, 2)}, 39)...)...), 78, api.ErrLimit},
	})
}

func TestValidateMaxRegions(t *testing.T) {
	c := api.Corpus{Attributes: []api.Attribute{{Name: "w"}}, Texts: []api.Text{{Name: "t", Begin: 0, End: 256}}}
	for i := range 256 {
		c.Tokens = append(c.Tokens, []string{"x"})
		c.Regions = append(c.Regions, slices.Repeat([]api.Region{region("s", i, i+1)}, 4)...)
		c.Nodes = append(c.Nodes, slices.Repeat([]api.Node{{Label: "S", Begin: i, End: i + 1, Parent: -1}}, 8)...)
		for k := range 7 {
			c.Nodes[8*i+k+1].Parent = 8*i + k
		}
	}
	checkCorpus(t, c)
	if got := validating(c); got != (finding{}) {
		t.Errorf("1024 regions and 2048 nodes: %v", got)
	}
	more := c
	more.Regions = append(slices.Clone(c.Regions), region("s", 255, 256))
	if got := validating(more); got != (finding{api.PartRegions, 0, api.ErrLimit}) {
		t.Errorf("1025 regions: %v", got)
	}
	more = c
	more.Nodes = append(slices.Clone(c.Nodes), api.Node{Label: "S", Begin: 255, End: 256, Parent: 2047})
	if got := validating(more); got != (finding{api.PartNodes, 0, api.ErrLimit}) {
		t.Errorf("2049 nodes: %v", got)
	}
}

// withNodes returns a change of the nodes.
func withNodes(list ...api.Node) func(c *api.Corpus) {
	return func(c *api.Corpus) { c.Nodes = list }
}

func node(begin, end, parent int) api.Node {
	return api.Node{Label: "S", Begin: begin, End: end, Parent: parent}
}

func TestValidateNodes(t *testing.T) {
	chain := func(n int) []api.Node {
		var list []api.Node
		for i := range n {
			list = append(list, node(0, 2, i-1))
		}
		return list
	}
	checkChanges(t, api.PartNodes, changes{
		{"2049", withNodes(make([]api.Node, 2049)...), 0, api.ErrLimit},
		{"2048 without labels", withNodes(make([]api.Node, 2048)...), 0, api.ErrName},
		{"no label", withNodes(node(0, 1, -1), api.Node{Begin: 3, End: 3, Parent: 7}), 1, api.ErrName},
		{"a wrong label", withNodes(api.Node{Label: "N+", Begin: 0, End: 1, Parent: -1}), 0, api.ErrName},
		{"empty", withNodes(node(1, 1, 5)), 0, api.ErrRange},
		{"turned", withNodes(node(2, 1, -1)), 0, api.ErrRange},
		{"in two texts", withNodes(node(3, 5, 5)), 0, api.ErrRange},
		{"before the tokens", withNodes(node(-1, 1, -1)), 0, api.ErrRange},
		{"behind the tokens", withNodes(node(6, 8, -1)), 0, api.ErrRange},
		{"the least and the greatest int", withNodes(node(math.MinInt, math.MaxInt, -1)), 0, api.ErrRange},
		{"its own parent", withNodes(node(0, 1, 0)), 0, api.ErrOrder},
		{"its own parent behind another", withNodes(node(0, 1, -1), node(0, 1, 1)), 1, api.ErrOrder},
		{"a later parent", withNodes(node(0, 1, 1), node(0, 4, -1)), 0, api.ErrOrder},
		{"a parent less than -1", withNodes(node(0, 1, -2)), 0, api.ErrOrder},
		{"the least parent", withNodes(node(0, 1, math.MinInt)), 0, api.ErrOrder},
		{"the greatest parent", withNodes(node(0, 1, math.MaxInt)), 0, api.ErrOrder},
		{"a parent that is complete", withNodes(node(0, 4, -1), node(0, 1, 0), node(1, 2, 0), node(0, 1, 1)), 3, api.ErrOrder},
		{"a root that is complete", withNodes(node(0, 2, -1), node(2, 4, -1), node(2, 3, 0)), 2, api.ErrOrder},
		{"an order before the range", withNodes(node(0, 1, -1), node(1, 2, -1), node(3, 4, 0)), 2, api.ErrOrder},
		{"parents up to the root", withNodes(node(0, 4, -1), node(0, 3, 0), node(0, 2, 1), node(0, 1, 2), node(1, 2, 2), node(2, 3, 1), node(3, 4, 0), node(4, 7, -1)), 0, api.OK},
		{"before its parent", withNodes(node(1, 3, -1), node(0, 2, 0)), 1, api.ErrRange},
		{"behind its parent", withNodes(node(0, 3, -1), node(2, 4, 0)), 1, api.ErrRange},
		{"around its parent", withNodes(node(1, 3, -1), node(0, 4, 0)), 1, api.ErrRange},
		{"equal to its parent", withNodes(node(1, 3, -1), node(1, 3, 0)), 0, api.OK},
		{"over its sibling", withNodes(node(0, 4, -1), node(0, 2, 0), node(1, 3, 0)), 2, api.ErrRange},
		{"before its sibling", withNodes(node(0, 4, -1), node(2, 3, 0), node(0, 1, 0)), 2, api.ErrRange},
		{"over its sibling that has children", withNodes(node(0, 4, -1), node(0, 2, 0), node(0, 1, 1), node(0, 1, 2), node(1, 3, 0)), 4, api.ErrRange},
		{"behind its sibling", withNodes(node(0, 4, -1), node(0, 1, 0), node(2, 3, 0)), 0, api.OK},
		{"over another root", withNodes(node(0, 2, -1), node(1, 3, -1)), 1, api.ErrRange},
		{"before another root", withNodes(node(2, 4, -1), node(0, 1, -1)), 1, api.ErrRange},
		{"before a root of another text", withNodes(node(4, 7, -1), node(0, 4, -1)), 1, api.ErrRange},
		{"40 deep", withNodes(chain(40)...), 0, api.OK},
		{"41 deep", withNodes(chain(41)...), 40, api.ErrLimit},
		{"41 deep over its sibling", withNodes(append(chain(40), node(0, 1, 38))...), 40, api.ErrRange},
		{"40 deep and once more", withNodes(append(chain(40), node(2, 3, -1), node(2, 3, 40))...), 0, api.OK},
		{"before the heads", func(c *api.Corpus) { c.Nodes[6].Label, c.Heads = "", nil }, 6, api.ErrName},
	})
}

// withHeads returns a change of the heads and the relations.
func withHeads(heads []int, relations ...string) func(c *api.Corpus) {
	return func(c *api.Corpus) {
		c.Heads, c.Relations = heads, append(relations, make([]string, 7-len(relations))...)
	}
}

func TestValidateHeads(t *testing.T) {
	none := slices.Repeat([]int{-1}, 7)
	checkChanges(t, api.PartHeads, changes{
		{"relations alone", func(c *api.Corpus) { c.Heads = nil }, 0, api.ErrCount},
		{"heads alone", func(c *api.Corpus) { c.Relations = nil }, 0, api.ErrCount},
		{"too few", func(c *api.Corpus) { c.Heads, c.Relations = none[:6], make([]string, 6) }, 0, api.ErrCount},
		{"too many", func(c *api.Corpus) { c.Heads, c.Relations = append(none, 0), make([]string, 8) }, 0, api.ErrCount},
		{"without tokens", func(c *api.Corpus) {
			*c = api.Corpus{Attributes: c.Attributes, Heads: []int{0}, Relations: []string{""}}
		}, 0, api.ErrCount},
		{"no head and no relation", withHeads(none), 0, api.ErrValue},
		{"no head but a relation", withHeads(none, "", "", "", "", "", "", "root"), 0, api.OK},
		{"no head but a wrong relation", withHeads(none, "", "", "9"), 2, api.ErrName},
		{"a head and no relation", withHeads([]int{-1, -1, -1, -1, -1, -1, 4}), 0, api.OK},
		{"a head less than -1", withHeads([]int{-1, -2, -1, -1, -1, -1, -1}), 1, api.ErrRange},
		{"all heads less than -1", withHeads(slices.Repeat([]int{-2}, 7)), 0, api.ErrRange},
		{"the least head", withHeads([]int{-1, math.MinInt, -1, -1, -1, -1, -1}), 1, api.ErrRange},
		{"the greatest head", withHeads([]int{-1, math.MaxInt, -1, -1, -1, -1, -1}), 1, api.ErrRange},
		{"a head behind the tokens", withHeads([]int{-1, -1, -1, -1, -1, -1, 7}), 6, api.ErrRange},
		{"a head in the next text", withHeads([]int{-1, -1, -1, 4, -1, -1, -1}), 3, api.ErrRange},
		{"a head in the text before", withHeads([]int{-1, -1, -1, -1, 3, -1, -1}), 4, api.ErrRange},
		{"a range before a name", withHeads([]int{-1, 4, -1, -1, -1, -1, -1}, "", "9"), 1, api.ErrRange},
		{"a name before a cycle", withHeads([]int{0, -1, -1, -1, -1, -1, -1}, "-"), 0, api.ErrName},
		{"a relation of 32 bytes", withHeads(none, strings.Repeat("r", 32)), 0, api.OK},
		{"a relation of 33 bytes", withHeads(none, strings.Repeat("r", 33)), 0, api.ErrName},
		{"its own head", withHeads([]int{-1, -1, -1, -1, -1, -1, 6}), 6, api.ErrCycle},
		{"a cycle of all tokens", withHeads([]int{3, 0, 1, 2, -1, -1, -1}), 0, api.ErrCycle},
		{"a way into a cycle", withHeads([]int{1, 2, 3, 1, -1, -1, -1}), 1, api.ErrCycle},
		{"a way into its own head", withHeads([]int{1, 2, 2, -1, -1, -1, -1}), 2, api.ErrCycle},
		{"a way back through another text", withHeads([]int{1, 4, -1, -1, 0, -1, -1}), 0, api.ErrCycle},
		{"a way out of the tokens", withHeads([]int{1, 7, -1, -1, -1, -1, -1}), 1, api.ErrRange},
		{"a way to a negative head", withHeads([]int{1, 2, -3, -1, -1, -1, -1}), 2, api.ErrRange},
		{"a cycle behind a wrong head", withHeads([]int{1, 0, -3, -1, -1, -1, -1}), 0, api.ErrCycle},
		{"many ways to one root", withHeads([]int{3, 3, 3, -1, 5, -1, 5}), 0, api.OK},
		{"a long way", withHeads([]int{1, 2, 3, -1, 5, 6, -1}), 0, api.OK},
	})
}

func TestValidateHeadsOfAllSamples(t *testing.T) {
	heads := make([]int, 7)
	for number := range 6 * 6 * 6 * 6 {
		for i, rest := 0, number; i < 4; i++ {
			heads[i], rest = rest%6-2, rest/6
		}
		copy(heads[4:], []int{-1, 4, -1})
		c := sample()
		c.Heads = heads
		checkCorpus(t, c)
	}
}

func TestValidateLongWays(t *testing.T) {
	c := api.Corpus{Attributes: []api.Attribute{{Name: "w"}}, Texts: []api.Text{{Name: "t", Begin: 0, End: 4096}}, Relations: make([]string, 4096)}
	for i := range 4096 {
		c.Tokens = append(c.Tokens, []string{"x"})
		c.Heads = append(c.Heads, i+1)
	}
	for last, want := range map[int]finding{
		-1: {}, 0: {6, 0, api.ErrCycle}, 1: {6, 1, api.ErrCycle}, 4000: {6, 4000, api.ErrCycle}, 4095: {6, 4095, api.ErrCycle}, 4096: {6, 4095, api.ErrRange},
	} {
		c.Heads[4095] = last
		if got := validating(c); got != want {
			t.Errorf("the last head %d: %v; expected %v", last, got, want)
		}
	}
}

func TestValidateRandomCorpora(t *testing.T) {
	next := random(6)
	for range 10_000 {
		checkCorpus(t, generate(next))
	}
}

func TestValidateSpoiledCorpora(t *testing.T) {
	next := random(66)
	counts := map[finding]int{}
	for range 30_000 {
		c := generate(next)
		for range 1 + next(3) {
			if len(c.Attributes) > 0 {
				spoil(next, &c)
			}
		}
		checkCorpus(t, c)
		got := validating(c)
		counts[finding{got.part, 0, got.e}]++
	}
	// What the spoiled corpora never have would not be compared.
	for _, f := range []finding{
		{}, {1, 0, api.ErrName}, {1, 0, api.ErrDuplicate}, {2, 0, api.ErrCount}, {2, 0, api.ErrOrder}, {3, 0, api.ErrCount}, {3, 0, api.ErrName}, {3, 0, api.ErrDuplicate}, {3, 0, api.ErrRange}, {3, 0, api.ErrOrder},
		{4, 0, api.ErrName}, {4, 0, api.ErrRange}, {4, 0, api.ErrOrder}, {4, 0, api.ErrCross}, {5, 0, api.ErrName}, {5, 0, api.ErrRange}, {5, 0, api.ErrOrder}, {6, 0, api.ErrCount}, {6, 0, api.ErrName}, {6, 0, api.ErrRange}, {6, 0, api.ErrCycle},
	} {
		if counts[f] < 20 {
			t.Errorf("part %d has the error %d in %d corpora only", f.part, f.e, counts[f])
		}
	}
}
