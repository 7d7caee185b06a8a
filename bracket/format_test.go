package bracket_test

import (
	"math"
	"slices"
	"strings"
	"testing"

	"corpora/api"
	"corpora/bracket"
)

// P8.2

func TestFormat(t *testing.T) {
	for _, c := range []struct {
		nodes  []api.Node
		tokens int
		want   string
	}{
		{nil, 0, ""}, {[]api.Node{}, 1, "*\n"}, {nil, 3, "*\n*\n*\n"},
		{[]api.Node{node("S", 0, 3, -1), node("NP", 0, 2, 0), node("VP", 2, 3, 0)}, 3, "(S (NP * *) (VP *))\n"},
		{[]api.Node{node("A", 1, 2, -1)}, 3, "*\n(A *)\n*\n"},
		{[]api.Node{node("A", 0, 1, -1), node("B", 1, 3, -1)}, 3, "(A *)\n(B * *)\n"},
		{[]api.Node{node("A", 0, 1, -1), node("B", 0, 1, 0), node("C", 0, 1, 1)}, 1, "(A (B (C *)))\n"},
		{[]api.Node{node("A", 0, 4, -1), node("_", 1, 3, 0), node("b-9", 1, 2, 1)}, 5, "(A * (_ (b-9 *) *) *)\n*\n"},
		{[]api.Node{node("A", 0, 3, -1), node("B", 0, 2, 0), node("C", 0, 1, 1), node("D", 1, 2, 1), node("E", 2, 3, 0), node("F", 3, 4, -1)}, 4, "(A (B (C *) (D *)) (E *))\n(F *)\n"},
	} {
		if got, e := bracket.Format(c.nodes, c.tokens); got != c.want || e != api.OK {
			t.Errorf("Format(%+v, %d) = %q, %d; expected %q", c.nodes, c.tokens, got, e, c.want)
		}
		checkFormat(t, c.nodes, c.tokens)
	}
}

func TestFormatErrors(t *testing.T) {
	a := node("A", 0, 1, -1)
	list := func(nodes ...api.Node) []api.Node { return nodes }
	for _, c := range []struct {
		nodes  []api.Node
		tokens int
		e      api.Errno
	}{
		{nil, -1, api.ErrArg}, {nil, 4097, api.ErrArg}, {nil, math.MinInt, api.ErrArg}, {nil, math.MaxInt, api.ErrArg}, {row(2049), -1, api.ErrArg}, {list(node("", 0, 0, 9)), 4097, api.ErrArg},
		{row(2049), 4096, api.ErrLimit}, {row(2049), 0, api.ErrLimit}, {make([]api.Node, 2049), 1, api.ErrLimit}, {make([]api.Node, 2048), 1, api.ErrName},
		{list(node("", 0, 1, -1)), 1, api.ErrName}, {list(node("9", 3, 1, 5)), 1, api.ErrName}, {list(node(strings.Repeat("A", 33), 0, 1, -1)), 1, api.ErrName}, {list(node("A b", 0, 1, -1)), 1, api.ErrName}, {list(node("A\n", 0, 1, -1)), 0, api.ErrName}, {list(node("é", 0, 1, -1)), 1, api.ErrName},
		{list(node("A", 0, 0, -1)), 1, api.ErrRange}, {list(node("A", 1, 0, -1)), 1, api.ErrRange}, {list(node("A", -1, 1, -1)), 1, api.ErrRange}, {list(node("A", 0, 2, -1)), 1, api.ErrRange}, {list(a), 0, api.ErrRange}, {list(node("A", 1, 2, -1)), 1, api.ErrRange},
		{list(node("A", math.MinInt, math.MaxInt, -1)), 1, api.ErrRange}, {list(node("A", 0, 2, 7)), 1, api.ErrRange},
		{list(node("A", 0, 1, 0)), 1, api.ErrOrder}, {list(node("A", 0, 1, -2)), 1, api.ErrOrder}, {list(node("A", 0, 1, 1), a), 1, api.ErrOrder}, {list(node("A", 0, 1, math.MaxInt)), 1, api.ErrOrder}, {list(node("A", 0, 1, math.MinInt)), 1, api.ErrOrder},
		{list(a, node("B", 0, 1, 1)), 1, api.ErrOrder}, {list(a, node("B", 1, 2, -1), node("C", 1, 2, 0)), 2, api.ErrOrder}, {list(node("A", 0, 2, -1), node("B", 0, 1, 0), node("C", 1, 2, 0), node("D", 1, 2, 1)), 2, api.ErrOrder},
		{list(a, a), 1, api.ErrRange}, {list(node("A", 1, 2, -1), a), 2, api.ErrRange}, {list(a, node("B", 0, 2, 0)), 2, api.ErrRange}, {list(node("A", 1, 3, -1), node("B", 0, 2, 0)), 3, api.ErrRange}, {list(node("A", 0, 3, -1), node("B", 0, 2, 0), node("C", 1, 3, 0)), 3, api.ErrRange},
		{list(node("A", 0, 2, -1), node("B", 0, 1, 0), node("C", 1, 2, -1)), 2, api.ErrRange}, {list(node("A", 0, 2, -1), node("B", 0, 1, 0), node("C", 0, 1, 1), node("D", 0, 1, 0)), 2, api.ErrRange},
		{chain(41), 1, api.ErrLimit}, {append(chain(40), node("D", 0, 1, 40)), 1, api.ErrOrder}, {append(chain(40), node("D", 0, 2, 39)), 2, api.ErrRange}, {append(chain(41), node("", 0, 1, 40)), 1, api.ErrLimit},
		{list(a, node("B", 0, 0, -1), node("", 0, 1, -1)), 1, api.ErrRange}, {list(a, node("B", 0, 1, 9), node("C", 0, 0, -1)), 1, api.ErrOrder},
	} {
		if got, e := bracket.Format(c.nodes, c.tokens); got != "" || e != c.e {
			t.Errorf("Format(%.200v, %d) = %q, %d; expected %d", c.nodes[:min(len(c.nodes), 4)], c.tokens, got, e, c.e)
		}
		checkFormat(t, c.nodes, c.tokens)
	}
}

func TestFormatLimits(t *testing.T) {
	want := strings.Repeat("(C ", 40) + "*" + strings.Repeat(")", 40) + "\n"
	if got, e := bracket.Format(chain(40), 1); got != want || e != api.OK {
		t.Errorf("Format of the deepest constituents = %q, %d", got, e)
	}
	want = strings.Repeat("(R *)\n", 2048) + strings.Repeat("*\n", 2048)
	if got, e := bracket.Format(row(2048), 4096); got != want || e != api.OK {
		t.Errorf("Format of the greatest number of constituents = %d bytes, %d", len(got), e)
	}
	name := strings.Repeat("L", 32)
	if got, e := bracket.Format([]api.Node{node(name, 0, 1, -1)}, 1); got != "("+name+" *)\n" || e != api.OK {
		t.Errorf("Format of the longest label = %q, %d", got, e)
	}
}

func TestFormatOfAllNodes(t *testing.T) {
	var all []api.Node
	for begin := -1; begin <= 2; begin++ {
		for end := -1; end <= 3; end++ {
			for parent := -2; parent <= 2; parent++ {
				all = append(all, node("A", begin, end, parent))
			}
		}
	}
	for _, first := range all {
		checkFormat(t, []api.Node{first}, 2)
		for _, second := range all {
			checkFormat(t, []api.Node{first, second}, 2)
		}
	}
	var small []api.Node
	for _, n := range all {
		if 0 <= n.Begin && n.Begin < n.End && n.Parent > -2 {
			small = append(small, n)
		}
	}
	for _, third := range small {
		for _, second := range small {
			checkFormat(t, []api.Node{node("A", 0, 3, -1), second, third}, 3)
			checkFormat(t, []api.Node{node("A", 0, 3, -1), node("B", 0, 2, 0), second, third}, 3)
		}
	}
}

func TestFormatOfSpoiledNodes(t *testing.T) {
	next := random(83)
	errors := map[api.Errno]int{}
	for range 20000 {
		nodes, tokens := generate(next)
		nodes = spoil(next, nodes, tokens)
		checkFormat(t, nodes, tokens)
		_, e := bracket.Format(nodes, tokens)
		errors[e]++
	}
	for _, e := range []api.Errno{api.OK, api.ErrName, api.ErrRange, api.ErrOrder} {
		if errors[e] < 500 {
			t.Errorf("the error %d was met only %d times", e, errors[e])
		}
	}
}

func TestFormatLeavesItsArgument(t *testing.T) {
	nodes := append(make([]api.Node, 0, 4), node("S", 0, 2, -1), node("A", 0, 1, 0))
	if _, e := bracket.Format(nodes, 2); e != api.OK {
		t.Error(e)
	}
	if want := []api.Node{node("S", 0, 2, -1), node("A", 0, 1, 0), {}, {}}; !slices.Equal(nodes[:4], want) {
		t.Errorf("the argument is %+v now", nodes[:4])
	}
}

// P8.3

func TestParseReturnsWhatWasWritten(t *testing.T) {
	next := random(84)
	total := 0
	for range 10000 {
		nodes, tokens := generate(next)
		text, e := bracket.Format(nodes, tokens)
		if e != api.OK {
			t.Fatalf("Format(%+v, %d) = %d", nodes, tokens, e)
		}
		if back := parsing(text, tokens); !same(back, parsed{nodes: nodes}) {
			t.Fatalf("Parse(%q, %d) = %+v; expected %+v", text, tokens, back, nodes)
		}
		checkFormat(t, nodes, tokens)
		total += len(nodes)
	}
	if total < 20000 {
		t.Errorf("only %d nodes", total)
	}
}

func TestParseReturnsTheLargestTrees(t *testing.T) {
	// Every other constituent of the long row contains one.
	var wide []api.Node
	for i := range 1024 {
		wide = append(wide, node("W", 4*i, 4*i+4, -1), node("w", 4*i+i%3, 4*i+3, 2*i))
	}
	var slope []api.Node
	for i := range 40 {
		slope = append(slope, node("S", i, 4096-i, i-1))
	}
	for _, nodes := range [][]api.Node{wide, slope, row(2048), chain(40)} {
		checkFormat(t, nodes, 4096)
	}
}

func TestFormatOfWhatWasParsed(t *testing.T) {
	for _, data := range []string{"", "**", "( \nS(A*)\n* )*", "*(A(B*)*)", "(A(B*))(C*)\n"} {
		tokens := strings.Count(data, "*")
		nodes, _, e := bracket.Parse(data, tokens)
		text, f := bracket.Format(nodes, tokens)
		if e != api.OK || f != api.OK {
			t.Errorf("Parse(%q, %d): %d, and Format: %d", data, tokens, e, f)
		}
		if back := parsing(text, tokens); !same(back, parsed{nodes: nodes}) {
			t.Errorf("Parse(%q, %d) = %+v; expected %+v", text, tokens, back, nodes)
		}
	}
}
