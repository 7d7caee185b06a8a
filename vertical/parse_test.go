package vertical_test

import (
	"fmt"
	"slices"
	"strconv"
	"strings"
	"testing"

	"corpora/api"
	"corpora/corpus"
	"corpora/vertical"
)

// P7.1

func TestParse(t *testing.T) {
	c := func(attrs []api.Attribute, tokens [][]string, texts []api.Text, regions ...api.Region) api.Corpus {
		return api.Corpus{Attributes: attrs, Tokens: tokens, Texts: texts, Regions: regions}
	}
	one := []api.Text{{Name: "t", Begin: 0, End: 1}}
	two := []api.Text{{Name: "t", Begin: 0, End: 2}}
	for data, want := range map[string]api.Corpus{
		"": c(word, nil, nil),
		file(`<text id="t">`, `<s n="1">`, "a", "<np>", "b &amp; c", "</s>", "</np>", "</text>"): c(word, [][]string{{"a"}, {"b & c"}}, two,
			api.Region{Type: "s", Begin: 0, End: 2, Keys: []api.Pair{{Name: "n", Value: "1"}}}, api.Region{Type: "np", Begin: 1, End: 2}),
		open + "a\n</text>":           c(word, [][]string{{"a"}}, one),
		open + "\n</text>":            c(word, [][]string{{""}}, one),
		open + "\n \n</text>\n":       c(word, [][]string{{""}, {" "}}, two),
		open + " <s>\n&lt;\n</text>":  c(word, [][]string{{" <s>"}, {"<"}}, two),
		open + "a\"<>b\n-\n</text>\n": c(word, [][]string{{"a\"<>b"}, {"-"}}, two),
		file(`<text z="&quot;" id="t" a="">`, "a", "</text>", `<text id="T">`, "b", "</text>"): c(word, [][]string{{"a"}, {"b"}},
			[]api.Text{{Name: "t", Begin: 0, End: 1, Meta: []api.Pair{{Name: "a"}, {Name: "z", Value: "\""}}}, {Name: "T", Begin: 1, End: 2}}),
		file(`<text id="t">`, "<s>", "<s>", "a", "</s>", "b", "</s>", "</text>"): c(word, [][]string{{"a"}, {"b"}}, two,
			api.Region{Type: "s", Begin: 0, End: 2}, api.Region{Type: "s", Begin: 0, End: 1}),
		file(`<text id="t">`, "<z>", "<a>", "a", "</z>", "</a>", "b", "</text>"): c(word, [][]string{{"a"}, {"b"}}, two,
			api.Region{Type: "a", Begin: 0, End: 1}, api.Region{Type: "z", Begin: 0, End: 1}),
		file(`<text id="t">`, `<s id="u">`, "a", "</s>", "<Text>", "b", "</Text>", "</text>"): c(word, [][]string{{"a"}, {"b"}}, two,
			api.Region{Type: "s", Begin: 0, End: 1, Keys: []api.Pair{{Name: "id", Value: "u"}}}, api.Region{Type: "Text", Begin: 1, End: 2}),
		file(`<text id="t">`, "<s>", "a", "<p>", "b", "</s>", "</p>", "</text>"): c(word, [][]string{{"a"}, {"b"}}, two,
			api.Region{Type: "s", Begin: 0, End: 2}, api.Region{Type: "p", Begin: 1, End: 2}),
	} {
		if got := parsing(data, word); fmt.Sprintf("%+v", got) != fmt.Sprintf("%+v", parsed{c: want}) {
			t.Errorf("Parse(%q, word) = %+v; expected %+v", data, got, want)
		}
		checkParse(t, data, word)
	}
}

func TestParseWithSets(t *testing.T) {
	for _, attrs := range [][]api.Attribute{wordSet, setWord[:2], setWord} {
		var values []string
		for _, a := range attrs {
			if a.Set {
				values = append(values, "|&|x|")
			} else {
				values = append(values, "|x|&|")
			}
		}
		data := open + strings.ReplaceAll(strings.Join(values, "\t"), "&", "&amp;") + "\n</text>"
		want := api.Corpus{Attributes: attrs, Tokens: [][]string{values}, Texts: []api.Text{{Name: "t", Begin: 0, End: 1}}}
		if got := parsing(data, attrs); !same(got, parsed{c: want}) {
			t.Errorf("Parse(%q, %v) = %+v", data, attrs, got)
		}
	}
}

// refused is a file with its error.
type refused struct {
	data         string
	line, column int
	e            api.Errno
}

func checkRefused(t *testing.T, attrs []api.Attribute, list []refused) {
	t.Helper()
	for _, r := range list {
		want := parsed{pos: api.Pos{Line: r.line, Column: r.column}, e: r.e}
		if got := parsing(r.data, attrs); !same(got, want) {
			t.Errorf("Parse(%.100q, %v) = %+v; expected %+v", r.data, attrs, got, want)
		}
		if got := parse(r.data, attrs); !same(got, want) {
			t.Errorf("the reference of Parse(%.100q, %v) = %+v; expected %+v", r.data, attrs, got, want)
		}
	}
}

func TestParseArguments(t *testing.T) {
	var nine []api.Attribute
	for i := range 9 {
		nine = append(nine, api.Attribute{Name: "a" + strconv.Itoa(i)})
	}
	long := strings.Repeat("x", api.MaxFile+1)
	for _, attrs := range [][]api.Attribute{
		nil, {}, nine, {{}}, {{Name: "9"}}, {{Name: "a b"}}, {{Name: "é"}}, {{Name: strings.Repeat("a", 33)}}, {{Name: "a"}, {Name: "-"}},
		{{Name: "a"}, {Name: "a"}}, {{Name: "a"}, {Name: "b"}, {Name: "a", Set: true}},
	} {
		checkRefused(t, attrs, []refused{{"", 0, 0, api.ErrArg}, {"<", 0, 0, api.ErrArg}, {long, 0, 0, api.ErrArg}})
	}
	checkRefused(t, word, []refused{{long, 0, 0, api.ErrLimit}, {long[1:], 1, 1, api.ErrType}, {long[2:], 1, 1, api.ErrType}})
	for _, attrs := range [][]api.Attribute{nine[:8], {{Name: strings.Repeat("a", 32)}}, {{Name: "a"}, {Name: "A"}}} {
		if got := parsing("", attrs); !same(got, parsed{c: api.Corpus{Attributes: attrs}}) {
			t.Errorf("Parse of an empty file with %v = %+v", attrs, got)
		}
	}
}

func TestParseTags(t *testing.T) {
	checkRefused(t, word, []refused{
		{"<", 1, 2, api.ErrSyntax}, {"<s", 1, 3, api.ErrSyntax}, {"<s>\r\n", 1, 4, api.ErrSyntax}, {"< s>", 1, 2, api.ErrSyntax}, {"<s n='1'>", 1, 6, api.ErrSyntax},
		{open + "a\n<é>", 3, 2, api.ErrSyntax}, {open + "<s n=\"é\" é>", 2, 10, api.ErrSyntax}, {open + "<s n=\"é&\">", 2, 8, api.ErrSyntax}, {open + "<s n=\"1\n2\">", 2, 8, api.ErrSyntax},
		{open + "<s n=\"1\" n=\"1\">", 2, 10, api.ErrDuplicate}, {open + "<" + strings.Repeat("s", 33) + ">", 2, 2, api.ErrLimit}, {open + "<s n=\"\xff\">", 2, 7, api.ErrEncoding},
		{"</text >", 1, 7, api.ErrSyntax}, {"<text>", 1, 1, api.ErrMissing}, {"<text ID=\"t\">", 1, 1, api.ErrMissing}, {"<text id=\"\">", 1, 1, api.ErrName},
		{"<text id=\"9\">", 1, 1, api.ErrName}, {"<text id=\"" + strings.Repeat("t", 33) + "\">", 1, 1, api.ErrName}, {"<text id=\"&#0;\">", 1, 11, api.ErrValue},
		{"</text>", 1, 1, api.ErrType}, {"<s>", 1, 1, api.ErrType}, {"</s>", 1, 1, api.ErrType},
		{open + "<text>", 2, 1, api.ErrType}, {open + "<text id=\"t\">", 2, 1, api.ErrType}, {open + "<text id=\"u\">", 2, 1, api.ErrType}, {open + "<text id=u>", 2, 10, api.ErrSyntax},
		{open + "a\n</text>\n<text id=\"u\">\nb\n</text>\n" + open, 7, 1, api.ErrDuplicate}, {open + "a\n</text>\n" + open, 4, 1, api.ErrDuplicate},
		{open + "</text>", 2, 1, api.ErrRange}, {open + "a\n</text>\n<text id=\"u\">\n</text>", 5, 1, api.ErrRange}, {open + "<s>\n</text>", 3, 1, api.ErrOrder},
		{open + "<s>\na\n</text>", 4, 1, api.ErrOrder}, {open + "<s>\na\n<p>\nb\n</s>\n</text>", 7, 1, api.ErrOrder}, {open + "a\n</text>\n</text>", 4, 1, api.ErrType},
		{open + "</s>", 2, 1, api.ErrMissing}, {open + "<s>\na\n</p>", 4, 1, api.ErrMissing}, {open + "<s>\na\n</s>\n</s>", 5, 1, api.ErrMissing}, {open + "<s>\na\n</S>", 4, 1, api.ErrMissing},
		{open + "a\n<s>\n</s>", 4, 1, api.ErrRange}, {open + "<s>\na\n<s>\n</s>", 5, 1, api.ErrRange}, {open + "a\n</text>\n<s>", 4, 1, api.ErrType}, {open + "a\n</text>\n</s>", 4, 1, api.ErrType},
	})
}

func TestParseTruncated(t *testing.T) {
	checkRefused(t, word, []refused{
		{open, 2, 1, api.ErrTruncated}, {strings.TrimSuffix(open, "\n"), 1, 14, api.ErrTruncated}, {open + "\n", 3, 1, api.ErrTruncated},
		{open + "é", 2, 2, api.ErrTruncated}, {open + "é\n", 3, 1, api.ErrTruncated}, {open + "<s>\na\n</s>", 4, 5, api.ErrTruncated}, {open + "<s>\na", 3, 2, api.ErrTruncated},
		{open + "a\n</text>\n<text id=\"u\">\nb\n\n", 7, 1, api.ErrTruncated},
	})
}

func TestParseTokens(t *testing.T) {
	checkRefused(t, word, []refused{
		{"a", 1, 1, api.ErrType}, {"\n", 1, 1, api.ErrType}, {"&", 1, 1, api.ErrType}, {" <text id=\"t\">", 1, 1, api.ErrType}, {open + "a\n</text>\n\n", 4, 1, api.ErrType},
		{open + "\t", 2, 2, api.ErrCount}, {open + "é\tb", 2, 3, api.ErrCount}, {open + "a\t&", 2, 3, api.ErrCount}, {open + "a\n\t\n", 3, 2, api.ErrCount}, {open + "&\tb", 2, 1, api.ErrSyntax},
		{open + "é&", 2, 2, api.ErrSyntax}, {open + "a &amp;&b", 2, 8, api.ErrSyntax}, {open + "\xff&", 2, 2, api.ErrSyntax}, {open + "\xff", 2, 1, api.ErrEncoding},
		{open + "é\xff\n", 2, 1, api.ErrEncoding}, {open + "a\x00", 2, 1, api.ErrValue}, {open + "a\r\n", 2, 1, api.ErrValue}, {open + "b&#9;", 2, 1, api.ErrValue}, {open + "b&#127;", 2, 1, api.ErrValue},
		{open + strings.Repeat("é", 61), 2, 1, api.ErrLimit}, {open + strings.Repeat("é", 61) + "\xff", 2, 1, api.ErrLimit}, {open + strings.Repeat("&#97;", 121), 2, 1, api.ErrLimit},
	})
	checkRefused(t, wordSet, []refused{
		{open + "\n", 2, 1, api.ErrCount}, {open + "é\n", 2, 2, api.ErrCount}, {open + "é", 2, 2, api.ErrCount}, {open + "é\t", 2, 3, api.ErrSyntax}, {open + "é\ta|\n", 2, 3, api.ErrSyntax},
		{open + "a\t|b|a|", 2, 3, api.ErrOrder}, {open + "a\t&#124;b|a|", 2, 3, api.ErrOrder}, {open + "a\t|&|", 2, 4, api.ErrSyntax}, {open + "a\t|&#9;|", 2, 3, api.ErrValue}, {open + "a\t|\xff|", 2, 3, api.ErrEncoding},
		{open + "a\t" + strings.Repeat("|", 121), 2, 3, api.ErrLimit}, {open + "a&\tb&", 2, 2, api.ErrSyntax}, {open + "a\x01\t||", 2, 1, api.ErrValue}, {open + "a\x01", 2, 1, api.ErrValue},
		{open + "a\t|\t", 2, 5, api.ErrCount}, {open + "a\t|\tb\t", 2, 5, api.ErrCount}, {open + "a\t||\tb", 2, 3, api.ErrSyntax}, {open + "a\t|\n</text>\t", 3, 8, api.ErrSyntax},
	})
	checkRefused(t, set, []refused{{open + "\n", 2, 1, api.ErrSyntax}, {open + "a", 2, 1, api.ErrSyntax}})
	for _, value := range []string{strings.Repeat("é", 60), strings.Repeat("&#97;", 120), strings.Repeat("&amp;", 120)} {
		if c, _, e := vertical.Parse(open+value+"\n</text>", word); e != api.OK || len(c.Tokens) != 1 || len(c.Tokens[0][0]) != 120 {
			t.Errorf("Parse of the longest value %q: %+v, %d", value, c, e)
		}
	}
}

func TestParseLimits(t *testing.T) {
	texts := func(n int) string {
		data := ""
		for i := range n {
			data += "<text id=\"t" + strconv.Itoa(i) + "\">\na\n</text>\n"
		}
		return data
	}
	tokens := strings.Repeat("a\n", 4096)
	regions := strings.Repeat("<s>\na\n</s>\n", 1023)
	deep := strings.Repeat("<s>\n<p>\n", 20)
	shallow := strings.Repeat("</p>\n</s>\n", 20)
	for _, data := range []string{
		texts(64), open + tokens + "</text>", open + regions + "<p>\na\n</p>\n</text>", open + deep + "a\n" + shallow + "</text>",
		open + deep + "a\n</s>\n<q>\na\n</q>\n<s>\na\n" + shallow + "</text>", open + deep + "a\n</p>\n</p>\n<p>\n<q>\nb\n</q>\n</p>\n</s>\n</s>\n" + strings.Repeat("</p>\n</s>\n", 18) + "</text>",
	} {
		checkParse(t, data, word)
		if got := parsing(data, word); got.e != api.OK {
			t.Errorf("Parse(%.60q ..) = %v, %d", data, got.pos, got.e)
		}
	}
	checkRefused(t, word, []refused{
		{texts(64) + "<text>", 193, 1, api.ErrLimit}, {texts(64) + "<text id=\"t0\">", 193, 1, api.ErrLimit}, {texts(64) + "a", 193, 1, api.ErrType}, {texts(64) + "<text id=\"\xff\">", 193, 11, api.ErrEncoding},
		{strings.TrimSuffix(texts(64), "</text>\n") + "<text>", 192, 1, api.ErrType}, {open + tokens + "a", 4098, 1, api.ErrLimit}, {open + tokens + "&\t", 4098, 1, api.ErrLimit},
		{open + tokens + "</text>\na", 4099, 1, api.ErrType}, {open + tokens + "</s>", 4098, 1, api.ErrMissing}, {open + regions + "<s>\n<s>", 3072, 1, api.ErrLimit}, {open + regions + "<s>\na\n</s>\n<p>", 3074, 1, api.ErrLimit},
		{open + regions + "<s>\na\n</s>\n</text>\n<p>", 3075, 1, api.ErrType}, {open + deep + "<q>", 42, 1, api.ErrLimit}, {open + deep + "a\n<s>", 43, 1, api.ErrLimit}, {open + deep + "<text id=\"u\">", 42, 1, api.ErrType},
		{open + deep + "a\n</s>\n<q>\n<s>\n", 45, 1, api.ErrLimit},
	})
}

func TestParseOfTheLongestFile(t *testing.T) {
	line := strings.Repeat("&quot;", 42)
	rest := api.MaxFile - len(open) - 4096*(len(line)+1) - len("</text>\n")
	data := open
	for range 4096 {
		more := min(rest, 78)
		data += line + strings.Repeat("b", more) + "\n"
		rest -= more
	}
	data += "</text>\n"
	if got := parsing(data, word); len(data) != api.MaxFile || got.e != api.OK || len(got.c.Tokens) != 4096 {
		t.Errorf("%d bytes: %v, %d", len(data), got.pos, got.e)
	}
	if got := parsing(data+"\n", word); !same(got, parsed{e: api.ErrLimit}) {
		t.Errorf("%d bytes: %v, %d", len(data)+1, got.pos, got.e)
	}
}

// The first line with an error decides, also if the text ends too early.
func TestParseReturnsTheFirstError(t *testing.T) {
	bad := []refused{
		{"<s", 2, 3, api.ErrSyntax}, {"<text>", 2, 1, api.ErrType}, {"</text>", 2, 1, api.ErrRange}, {"</p>", 2, 1, api.ErrMissing}, {"\x01", 2, 1, api.ErrValue}, {"a\t", 2, 3, api.ErrCount},
	}
	for _, r := range bad {
		for _, other := range bad {
			checkRefused(t, word, []refused{{open + r.data + "\n" + other.data, r.line, r.column, r.e}})
		}
	}
}

func TestParseOfAllLines(t *testing.T) {
	for _, list := range samples(4, "<text id=\"t\">", "<text id=\"u\" b=\"\">", "</text>", "<s>", "</s>", "<p n=\"1\">", "a", "") {
		checkParse(t, strings.Join(list, "\n"), word)
	}
	for _, list := range samples(6, "</text>", "<s>", "</s>", "<p>", "</p>", "a") {
		checkParse(t, open+strings.Join(list, "\n"), word)
		checkParse(t, open+strings.Join(list, "\n")+"\n</text>\n", word)
	}
}

func TestParseOfAllTokens(t *testing.T) {
	for _, list := range samples(5, "\t", "|", "a", "&amp;", "&", "\xff", "é", "\x1f") {
		for _, attrs := range [][]api.Attribute{word, set, wordSet, setWord} {
			checkParse(t, open+strings.Join(list, "")+"\n</text>", attrs)
		}
	}
}

func TestParseOfAllBytes(t *testing.T) {
	for b := range 256 {
		for _, data := range []string{"", open, open + "a", open + "<s", open + "<s n=\"", open + "</"} {
			for _, end := range []string{"", "b\n</text>", "\">\nb\n</s>\n</text>\n", ">\na\n</s>\n</text>"} {
				checkParse(t, data+string([]byte{byte(b)})+end, word)
			}
		}
	}
}

func TestParseReturnsNewMemory(t *testing.T) {
	attrs := append(make([]api.Attribute, 0, 9), wordSet...)
	data := file(`<text id="t" a="1" b="2">`, `<s m="1" n="2">`, "a\t|", "b\t|", "</s>", `<s m="1" n="2">`, "c\t|", "</s>", "</text>")
	c, _, _ := vertical.Parse(data, attrs)
	attrs[0].Name = "changed"
	if c.Attributes[0].Name != "word" {
		t.Error("the attributes are those of the argument")
	}
	attrs[0].Name = "word"
	for _, pairs := range [][]api.Pair{c.Texts[0].Meta, c.Regions[0].Keys, c.Regions[1].Keys} {
		_ = append(pairs, api.Pair{Name: "x"}, api.Pair{Name: "y"})
	}
	for _, values := range c.Tokens {
		_ = append(values, "x", "y")
	}
	c.Tokens[0][0], c.Texts[0].Meta[0].Value, c.Regions[0].Keys[0].Value = "x", "y", "z"
	want := parse(data, attrs).c
	want.Tokens[0][0], want.Texts[0].Meta[0].Value, want.Regions[0].Keys[0].Value = "x", "y", "z"
	if !corpus.Equal(c, want) {
		t.Errorf("lists of the result share memory: %+v", c)
	}
	if len(attrs[:3][2].Name) > 0 {
		t.Error("the spare capacity of the argument was written")
	}
}

// P7.2

func TestParseReturnsValidCorpora(t *testing.T) {
	next := random(72)
	accepted, crossing := 0, 0
	for range 6000 {
		data := generateFile(next)
		checkParse(t, data, wordSet)
		c, _, e := vertical.Parse(data, wordSet)
		if e != api.OK {
			continue
		}
		accepted++
		for i, r := range c.Regions {
			if slices.ContainsFunc(c.Regions[:i], func(o api.Region) bool { return o.Begin < r.Begin && r.Begin < o.End && o.End < r.End }) {
				crossing++
			}
		}
	}
	if accepted < 1000 || crossing < 50 {
		t.Errorf("only %d files are accepted, with %d regions that cross", accepted, crossing)
	}
}

func TestParseOfSpoiledFiles(t *testing.T) {
	next := random(71)
	for range 6000 {
		data := []byte(generateFile(next))
		for range 1 + next(2) {
			at, size := next(len(data)+1), next(2)
			size = min(size, len(data)-at)
			data = slices.Replace(data, at, at+size, []byte(pick(next, "", "\n", "\t", "<", ">", "\"", "&", "|", "/", "a", "\xc3", "</s>\n", "<s>\n"))...)
		}
		checkParse(t, string(data), wordSet)
	}
}

func FuzzVertical(f *testing.F) {
	f.Add(file(`<text id="t" a="&lt;">`, `<s n="1">`, "a\t|", "<np>", "b &amp; c\t|x|", "</s>", "</np>", "</text>"), 1)
	f.Add(file(`<text id="t">`, "a", "</text>", `<text id="t">`), 0)
	f.Fuzz(func(t *testing.T, data string, n int) {
		checkParse(t, data, [][]api.Attribute{word, wordSet, set, setWord}[n&3])
	})
}
