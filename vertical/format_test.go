package vertical_test

import (
	"strconv"
	"strings"
	"testing"

	"corpora/api"
	"corpora/corpus"
	"corpora/vertical"
)

// P7.3

// flat returns a corpus with one text of n tokens a and some regions.
func flat(n int, regions ...api.Region) api.Corpus {
	c := api.Corpus{Attributes: word, Texts: []api.Text{{Name: "t", Begin: 0, End: n}}, Regions: corpus.SortRegions(regions)}
	for range n {
		c.Tokens = append(c.Tokens, []string{"a"})
	}
	return c
}

func region(name string, begin, end int, keys ...api.Pair) api.Region {
	return api.Region{Type: name, Begin: begin, End: end, Keys: keys}
}

func TestFormat(t *testing.T) {
	for want, c := range map[string]api.Corpus{
		"":                                       {Attributes: wordSet},
		file(`<text id="t">`, "a", "</text>"):    flat(1),
		file(`<text id="t">`, "", "", "</text>"): {Attributes: word, Tokens: [][]string{{""}, {""}}, Texts: []api.Text{{Name: "t", Begin: 0, End: 2}}},
		file(`<text id="t">`, "&lt;&gt;&amp;&quot;&amp;lt; é|", "</text>"): {Attributes: word, Tokens: [][]string{{"<>&\"&lt; é|"}}, Texts: []api.Text{{Name: "t", Begin: 0, End: 1}}},
		file(`<text a="&lt;" id="T" z="">`, "|\ta\tb", "|&lt;|x|\t\t", "</text>", `<text i="1" id="u" idx="&quot;">`, "|\tc\td", "</text>"): {Attributes: setWord,
			Tokens: [][]string{{"|", "a", "b"}, {"|<|x|", "", ""}, {"|", "c", "d"}},
			Texts:  []api.Text{{Name: "T", Begin: 0, End: 2, Meta: []api.Pair{{Name: "a", Value: "<"}, {Name: "z"}}}, {Name: "u", Begin: 2, End: 3, Meta: []api.Pair{{Name: "i", Value: "1"}, {Name: "idx", Value: "\""}}}}},
		file(`<text id="t">`, "<p>", "<s>", "a", "</s>", "<s>", "a", "</s>", "</p>", "</text>"):                     flat(2, region("p", 0, 2), region("s", 0, 1), region("s", 1, 2)),
		file(`<text id="t">`, "<s>", "a", "<p>", "a", "</s>", "a", "</p>", "</text>"):                               flat(3, region("s", 0, 2), region("p", 1, 3)),
		file(`<text id="t">`, "<s>", "<s>", "<s n=\"&amp;\">", "a", "</s>", "</s>", "</s>", "</text>"):              flat(1, region("s", 0, 1), region("s", 0, 1), region("s", 0, 1, api.Pair{Name: "n", Value: "&"})),
		file(`<text id="t">`, "<s id=\"1\" n=\"2\">", "a", "a", "<q>", "a", "</q>", "</s>", "</text>"):              flat(3, region("s", 0, 3, api.Pair{Name: "id", Value: "1"}, api.Pair{Name: "n", Value: "2"}), region("q", 2, 3)),
		file(`<text id="t">`, "<p>", "<q>", "a", "<r>", "<q>", "a", "</q>", "</q>", "</p>", "a", "</r>", "</text>"): flat(3, region("p", 0, 2), region("q", 0, 2), region("r", 1, 3), region("q", 1, 2)),
	} {
		if got, e := vertical.Format(c); got != want || e != api.OK {
			t.Errorf("Format(%+v) = %q, %d; expected %q", c, got, e, want)
		}
		checkFormat(t, c)
	}
}

// Regions that end with a text are closed in it, and not again in front of the next one.
func TestFormatAtTheEndOfATextThatIsFollowed(t *testing.T) {
	c := flat(3, region("s", 0, 2), region("p", 1, 2), region("s", 2, 3))
	c.Texts = []api.Text{{Name: "t", Begin: 0, End: 2}, {Name: "u", Begin: 2, End: 3}}
	want := file(`<text id="t">`, "<s>", "a", "<p>", "a", "</p>", "</s>", "</text>", `<text id="u">`, "<s>", "a", "</s>", "</text>")
	if got, e := vertical.Format(c); got != want || e != api.OK {
		t.Errorf("Format = %q, %d", got, e)
	}
	checkFormat(t, c)
}

// pairs returns n pairs.
func pairs(n int) []api.Pair {
	var list []api.Pair
	for i := range n {
		list = append(list, api.Pair{Name: "p" + strconv.Itoa(i)})
	}
	return list
}

func TestFormatErrors(t *testing.T) {
	id := []api.Pair{{Name: "id", Value: "x"}}
	text := func(name string, at int, meta []api.Pair) api.Text {
		return api.Text{Name: name, Begin: at, End: at + 1, Meta: meta}
	}
	of := func(first, second []api.Pair, types ...string) api.Corpus {
		c := flat(2)
		c.Texts = []api.Text{text("t", 0, first), text("u", 1, second)}
		for i, name := range types {
			c.Regions = append(c.Regions, region(name, i, i+1))
		}
		return c
	}
	for _, x := range []struct {
		c api.Corpus
		e api.Errno
	}{
		{of(id, nil), api.ErrName}, {of(nil, id), api.ErrName}, {of(pairs(8), nil), api.ErrLimit}, {of(nil, pairs(8)), api.ErrLimit}, {of(append(id, pairs(7)...), nil), api.ErrName},
		{of(id, pairs(8)), api.ErrName}, {of(pairs(8), id), api.ErrLimit}, {of(nil, nil, "text"), api.ErrName}, {of(nil, nil, "s", "text"), api.ErrName}, {of(nil, pairs(8), "text"), api.ErrLimit},
		{of(pairs(7), pairs(7), "Text", "s"), api.OK},
	} {
		if got, e := vertical.Format(x.c); e != x.e || (got == "") != (e != api.OK) {
			t.Errorf("Format(%+v) = %q, %d; expected %d", x.c, got, e, x.e)
		}
		checkFormat(t, x.c)
	}
	long := flat(4096)
	for _, values := range long.Tokens {
		values[0] = strings.Repeat("\"", 120)
	}
	checkFormat(t, long)
	long.Regions = []api.Region{region("s", 0, 1), region("text", 0, 1)}
	if got, e := vertical.Format(long); got != "" || e != api.ErrName {
		t.Errorf("Format of a region text in a long corpus = %d bytes, %d", len(got), e)
	}
}

func TestFormatOfTheLongestFile(t *testing.T) {
	c := flat(4096)
	rest := api.MaxFile - len(open) - len("</text>\n") - 4096
	for _, values := range c.Tokens {
		quotes := min(rest/6, 50)
		rest -= 6 * quotes
		values[0] = strings.Repeat("\"", quotes)
	}
	c.Tokens[0][0] += strings.Repeat("b", rest)
	if got, e := vertical.Format(c); len(got) != api.MaxFile || e != api.OK {
		t.Errorf("Format = %d bytes, %d", len(got), e)
	}
	checkFormat(t, c)
	c.Tokens[1][0] += "b"
	if got, e := vertical.Format(c); got != "" || e != api.ErrLimit {
		t.Errorf("Format of a file that is one byte too long = %d bytes, %d", len(got), e)
	}
}

// For a corpus that is not valid, there is no panic, and nothing else with an error.
func TestFormatOfInvalidCorpora(t *testing.T) {
	for _, c := range []api.Corpus{
		{}, {Texts: []api.Text{{Name: "t", Begin: 0, End: 9}}}, {Attributes: word, Tokens: [][]string{{"a"}}, Texts: []api.Text{{Name: "t", Begin: -3, End: 1}}},
		{Attributes: word, Tokens: [][]string{{"a"}}, Texts: []api.Text{{Name: "t", Begin: 0, End: 1, Meta: pairs(9)}}}, flat(1, region("9", 0, 1)), flat(1, region("s", 0, 1, pairs(9)...)),
		flat(1, region("s", -1, 1)), flat(2, region("s", 1, 1)), {Attributes: word, Tokens: [][]string{nil, {"\n", "\t"}}, Texts: []api.Text{{Name: "é", Begin: 0, End: 2}}},
	} {
		if got, e := vertical.Format(c); got != "" && e != api.OK {
			t.Errorf("Format(%+v) = %q, %d", c, got, e)
		}
	}
}

// P7.4

func TestParseReturnsWhatWasWritten(t *testing.T) {
	next := random(74)
	regions := 0
	for range 3000 {
		c := generate(next)
		checkFormat(t, c)
		data, e := vertical.Format(c)
		back, pos, f := vertical.Parse(data, c.Attributes)
		c.Nodes, c.Heads, c.Relations = nil, nil, nil
		if e != api.OK || f != api.OK || pos != (api.Pos{}) || !corpus.Equal(back, c) {
			t.Fatalf("Parse of the file %q of %+v = %+v, %v, %d", data, c, back, pos, f)
		}
		regions += len(c.Regions)
	}
	if regions < 3000 {
		t.Errorf("only %d regions", regions)
	}
}

func TestParseReturnsTheLargestCorpora(t *testing.T) {
	deep := flat(64)
	for i := range 40 {
		deep.Regions = append(deep.Regions, region(pick(func(n int) int { return i % n }, "s", "p", "q"), i/2, 64-i/4))
	}
	deep.Regions = corpus.SortRegions(deep.Regions)
	wide := flat(4096)
	for i := range 1024 {
		wide.Regions = append(wide.Regions, region("s", 4*i, 4*i+1+i%4, pairs(i%9)...))
	}
	many := flat(64)
	many.Texts = nil
	for i := range 64 {
		many.Texts = append(many.Texts, api.Text{Name: "t" + strconv.Itoa(i), Begin: i, End: i + 1, Meta: pairs(i % 8)})
	}
	for _, c := range []api.Corpus{deep, wide, many} {
		checkFormat(t, c)
	}
}
