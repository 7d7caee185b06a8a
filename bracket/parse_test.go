package bracket_test

import (
	"math"
	"slices"
	"strings"
	"testing"

	"corpora/api"
	"corpora/bracket"
)

// P8.1

func TestParse(t *testing.T) {
	for _, c := range []struct {
		data   string
		tokens int
		want   []api.Node
	}{
		{"", 0, nil}, {" ", 0, nil}, {"\n \n", 0, nil}, {"*", 1, nil}, {"* *\n**", 4, nil},
		{"(S (NP * *) *)", 3, []api.Node{node("S", 0, 3, -1), node("NP", 0, 2, 0)}},
		{"* (A *)", 2, []api.Node{node("A", 1, 2, -1)}},
		{"(A*)", 1, []api.Node{node("A", 0, 1, -1)}},
		{"(A*)*(B*)", 3, []api.Node{node("A", 0, 1, -1), node("B", 2, 3, -1)}},
		{"(A(A(A*)))", 1, []api.Node{node("A", 0, 1, -1), node("A", 0, 1, 0), node("A", 0, 1, 1)}},
		{"(S(A(B*)(C*))(D*))(E*)", 4, []api.Node{node("S", 0, 3, -1), node("A", 0, 2, 0), node("B", 0, 1, 1), node("C", 1, 2, 1), node("D", 2, 3, 0), node("E", 3, 4, -1)}},
		{"(S * (A * (B *) *) *)", 5, []api.Node{node("S", 0, 5, -1), node("A", 1, 4, 0), node("B", 2, 3, 1)}},
		{" \n( \n S \n ( \n N * \n) * \n) \n ", 2, []api.Node{node("S", 0, 2, -1), node("N", 0, 1, 0)}},
		{"(_-9Az*)(z_*)(__*)", 3, []api.Node{node("_-9Az", 0, 1, -1), node("z_", 1, 2, -1), node("__", 2, 3, -1)}},
		{"(A\n*)", 1, []api.Node{node("A", 0, 1, -1)}},
	} {
		if got := parsing(c.data, c.tokens); !same(got, parsed{nodes: c.want}) {
			t.Errorf("Parse(%q, %d) = %+v; expected %+v", c.data, c.tokens, got, c.want)
		}
		checkParse(t, c.data, c.tokens)
	}
}

// refused is a text with its error.
type refused struct {
	data         string
	tokens       int
	line, column int
	e            api.Errno
}

func checkRefused(t *testing.T, list ...refused) {
	t.Helper()
	for _, r := range list {
		want := parsed{pos: api.Pos{Line: r.line, Column: r.column}, e: r.e}
		if got := parsing(r.data, r.tokens); !same(got, want) {
			t.Errorf("Parse(%.100q, %d) = %+v; expected %+v", r.data, r.tokens, got, want)
		}
		if got := parse(r.data, r.tokens); !same(got, want) {
			t.Errorf("the reference of Parse(%.100q, %d) = %+v; expected %+v", r.data, r.tokens, got, want)
		}
	}
}

func TestParseArguments(t *testing.T) {
	long := strings.Repeat("\n", api.MaxFile+1)
	for _, tokens := range []int{-1, 4097, math.MinInt, math.MaxInt} {
		checkRefused(t, refused{"", tokens, 0, 0, api.ErrArg}, refused{")", tokens, 0, 0, api.ErrArg}, refused{long, tokens, 0, 0, api.ErrArg})
	}
	checkRefused(t,
		refused{long, 0, 0, 0, api.ErrLimit}, refused{")" + long, 0, 0, 0, api.ErrLimit}, refused{long, 1, 0, 0, api.ErrLimit},
		refused{long[1:], 1, api.MaxFile + 1, 1, api.ErrCount}, refused{long[2:] + ")", 0, api.MaxFile, 1, api.ErrSyntax},
	)
	checkParse(t, long[1:], 0)
	checkParse(t, long[5:]+"(A*)", 1)
}

func TestParseSyntax(t *testing.T) {
	checkRefused(t,
		refused{")", 0, 1, 1, api.ErrSyntax}, refused{"\n )", 0, 2, 2, api.ErrSyntax}, refused{"*)", 1, 1, 2, api.ErrSyntax}, refused{"(A*))", 1, 1, 5, api.ErrSyntax}, refused{"(A*)\n*) (", 2, 2, 2, api.ErrSyntax},
		refused{"()", 0, 1, 2, api.ErrSyntax}, refused{"(*)", 1, 1, 2, api.ErrSyntax}, refused{"((A*))", 1, 1, 2, api.ErrSyntax}, refused{"( \n ", 0, 2, 2, api.ErrTruncated}, refused{"( \n )", 0, 2, 2, api.ErrSyntax},
		refused{"(9*)", 1, 1, 2, api.ErrSyntax}, refused{"(-*)", 1, 1, 2, api.ErrSyntax}, refused{"(é*)", 1, 1, 2, api.ErrSyntax}, refused{"(Aé*)", 1, 1, 3, api.ErrSyntax}, refused{"(A.*)", 1, 1, 3, api.ErrSyntax},
		refused{"A", 0, 1, 1, api.ErrSyntax}, refused{"*A", 1, 1, 2, api.ErrSyntax}, refused{"(A B*)", 1, 1, 4, api.ErrSyntax}, refused{"(A*B)", 1, 1, 4, api.ErrSyntax}, refused{"(A(B*)C)", 1, 1, 7, api.ErrSyntax}, refused{"(A* 9)", 1, 1, 5, api.ErrSyntax},
		refused{"\t", 0, 1, 1, api.ErrSyntax}, refused{"*\r\n", 1, 1, 2, api.ErrSyntax}, refused{"(\tA*)", 1, 1, 2, api.ErrSyntax}, refused{"(A\v*)", 1, 1, 3, api.ErrSyntax}, refused{"(A\x00*)", 1, 1, 3, api.ErrSyntax}, refused{"*\u00a0", 1, 1, 2, api.ErrSyntax},
		refused{"\xff", 0, 1, 1, api.ErrSyntax}, refused{"*\xc3", 1, 1, 2, api.ErrSyntax}, refused{"*\n* é*", 2, 2, 3, api.ErrSyntax}, refused{"[A *]", 1, 1, 1, api.ErrSyntax}, refused{"(A *]", 1, 1, 5, api.ErrSyntax},
	)
}

func TestParseRangeCountAndTruncated(t *testing.T) {
	checkRefused(t,
		refused{"(A)", 0, 1, 3, api.ErrRange}, refused{"(A )", 1, 1, 4, api.ErrRange}, refused{"(A(B))", 0, 1, 5, api.ErrRange}, refused{"(A * (B))", 1, 1, 8, api.ErrRange}, refused{"*(A)", 1, 1, 4, api.ErrRange}, refused{"(A(B*)\n(C))", 1, 2, 3, api.ErrRange},
		refused{"*", 0, 1, 1, api.ErrCount}, refused{"(A * *)", 1, 1, 6, api.ErrCount}, refused{"**\n(A *", 2, 2, 4, api.ErrCount}, refused{"(A*)\n\n*", 1, 3, 1, api.ErrCount}, refused{"(A*)(B**)", 2, 1, 8, api.ErrCount},
		refused{"(", 0, 1, 2, api.ErrTruncated}, refused{"(", 1, 1, 2, api.ErrTruncated}, refused{"(A", 0, 1, 3, api.ErrTruncated}, refused{"(A ", 0, 1, 4, api.ErrTruncated}, refused{"(A\n", 0, 2, 1, api.ErrTruncated},
		refused{"(A *", 1, 1, 5, api.ErrTruncated}, refused{"(A *", 2, 1, 5, api.ErrTruncated}, refused{"(A(B*)", 1, 1, 7, api.ErrTruncated}, refused{"(A*)(B*", 2, 1, 8, api.ErrTruncated}, refused{"(A(", 0, 1, 4, api.ErrTruncated},
		refused{"", 1, 1, 1, api.ErrCount}, refused{"", 4096, 1, 1, api.ErrCount}, refused{" \n ", 1, 2, 2, api.ErrCount}, refused{"*", 2, 1, 2, api.ErrCount}, refused{"(A*)\n", 2, 2, 1, api.ErrCount},
	)
}

func TestParseLimits(t *testing.T) {
	name := strings.Repeat("L", 32)
	deep := strings.Repeat("(A", 40)
	closed := strings.Repeat(")", 40)
	many := strings.Repeat("(A*)", 2047)
	for _, c := range []refused{
		{data: "(" + name + "*)", tokens: 1}, {data: "(" + name + " *(b" + name[1:] + " *))", tokens: 2}, {data: deep + "*" + closed, tokens: 1}, {data: deep + "*))(A(A*" + closed, tokens: 2}, {data: many + "(A*)", tokens: 2048},
		{data: "(A" + many + "*)", tokens: 2048}, {data: strings.Repeat("*", 4096), tokens: 4096}, {data: strings.Repeat("(A*)*", 2048), tokens: 4096},
	} {
		if got := parsing(c.data, c.tokens); got.e != api.OK || got.pos != (api.Pos{}) {
			t.Errorf("Parse(%.60q, %d) = %v, %d", c.data, c.tokens, got.pos, got.e)
		}
		checkParse(t, c.data, c.tokens)
	}
	checkRefused(t,
		refused{"(" + name + "L*)", 1, 1, 2, api.ErrLimit}, refused{"(\n " + name + "-", 1, 2, 2, api.ErrLimit}, refused{"(" + name + "9 !", 0, 1, 2, api.ErrLimit}, refused{"(A* (" + name + name, 1, 1, 6, api.ErrLimit}, refused{"(" + name + "é", 1, 1, 34, api.ErrSyntax},
		refused{deep + "(A*" + closed, 1, 1, 81, api.ErrLimit}, refused{deep + "(", 0, 1, 81, api.ErrLimit}, refused{deep + "(!", 0, 1, 81, api.ErrLimit}, refused{deep + "*(", 1, 1, 82, api.ErrLimit}, refused{deep + "*)(A(A", 1, 1, 85, api.ErrLimit},
		refused{deep[1:], 0, 1, 1, api.ErrSyntax}, refused{deep[:79] + "(", 0, 1, 80, api.ErrSyntax}, refused{deep[:78] + "(" + name + "L", 0, 1, 80, api.ErrLimit}, refused{deep + ")", 0, 1, 81, api.ErrRange}, refused{deep + "\n!", 0, 2, 1, api.ErrSyntax},
		refused{many + "(A*)(A*)", 2049, 1, 8193, api.ErrLimit}, refused{many + "(A*)(", 2048, 1, 8193, api.ErrLimit}, refused{many + "(A*)()", 2048, 1, 8193, api.ErrLimit}, refused{many + "((", 2048, 1, 8190, api.ErrSyntax}, refused{many + "(A(B*))", 2048, 1, 8191, api.ErrLimit},
		refused{many + "(A*))", 2048, 1, 8193, api.ErrSyntax}, refused{many + "(A*)*", 2048, 1, 8193, api.ErrCount}, refused{many + "(A*)\n", 2049, 2, 1, api.ErrCount}, refused{strings.Repeat("*", 4097), 4096, 1, 4097, api.ErrCount},
	)
}

// The error that stands first decides, whatever follows it.
func TestParseReturnsTheFirstError(t *testing.T) {
	bad := []refused{
		{"!", 9, 1, 1, api.ErrSyntax}, {"(!", 9, 1, 2, api.ErrSyntax}, {"(A)", 9, 1, 3, api.ErrRange}, {"(" + strings.Repeat("A", 33), 9, 1, 2, api.ErrLimit},
		{"**********", 9, 1, 10, api.ErrCount}, {strings.Repeat("(A", 41), 9, 1, 81, api.ErrLimit},
	}
	for _, r := range bad {
		for _, other := range bad {
			checkRefused(t, refused{r.data + " " + other.data, r.tokens, r.line, r.column, r.e})
			checkRefused(t, refused{" \n\n" + r.data + "\n", r.tokens, 3, r.column, r.e})
		}
	}
}

func TestParseOfAllTexts(t *testing.T) {
	for _, data := range samples(6, "(", "A", "*", ")", " ", "-") {
		stars := strings.Count(data, "*")
		for tokens := max(stars-1, 0); tokens <= stars+1; tokens++ {
			checkParse(t, data, tokens)
		}
	}
	for _, data := range samples(8, "(A", "*", ")", " (b-") {
		checkParse(t, data, strings.Count(data, "*"))
	}
}

func TestParseOfAllBytes(t *testing.T) {
	for b := range 256 {
		for _, data := range []string{"", "*", "(", "(A", "(A ", "(A*", "(A*)", "(A(B*)"} {
			for _, end := range []string{"", "*", ")", "*)", "A*)", "))"} {
				text := data + string([]byte{byte(b)}) + end
				checkParse(t, text, strings.Count(text, "*"))
			}
		}
	}
}

func TestParseOfGeneratedTexts(t *testing.T) {
	next := random(81)
	nodes := 0
	for range 5000 {
		data, tokens := generateText(next)
		checkParse(t, data, tokens)
		got := parsing(data, tokens)
		if got.e != api.OK {
			t.Fatalf("Parse(%q, %d) = %v, %d", data, tokens, got.pos, got.e)
		}
		nodes += len(got.nodes)
	}
	if nodes < 10000 {
		t.Errorf("only %d constituents", nodes)
	}
}

func TestParseOfSpoiledTexts(t *testing.T) {
	next := random(82)
	for range 10000 {
		text, tokens := generateText(next)
		data := []byte(text)
		for range 1 + next(2) {
			at := next(len(data) + 1)
			size := min(next(2), len(data)-at)
			data = slices.Replace(data, at, at+size, []byte(pick(next, "", "", "(", ")", "*", "A", "(A", "9", " ", "\n", "\t", "é"))...)
		}
		checkParse(t, string(data), max(tokens+pick(next, 0, 0, 0, -1, 1), 0))
	}
}

func TestParseReturnsNewMemory(t *testing.T) {
	a, _, _ := bracket.Parse("(A(B*))", 1)
	b, _, _ := bracket.Parse("(A(B*))", 1)
	a[0].Label, a[1].Parent = "changed", 7
	if want := []api.Node{node("A", 0, 1, -1), node("B", 0, 1, 0)}; !slices.Equal(b, want) {
		t.Errorf("results share memory: %+v", b)
	}
}

func FuzzBracket(f *testing.F) {
	f.Add("(S (NP * *) (VP *))\n*\n", 4)
	f.Add("(A(B*)\n(C))", 1)
	f.Fuzz(func(t *testing.T, data string, tokens int) {
		checkParse(t, data, tokens)
		checkParse(t, data, strings.Count(data, "*"))
	})
}
