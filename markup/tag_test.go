package markup_test

import (
	"slices"
	"strconv"
	"strings"
	"testing"

	"corpora/api"
	"corpora/markup"
)

// P4.3

func TestParseTag(t *testing.T) {
	for s, want := range map[string]markup.Tag{
		"<s>":                                {Name: "s"},
		"</s>":                               {Close: true, Name: "s"},
		"<_>":                                {Name: "_"},
		"<N-9_>":                             {Name: "N-9_"},
		"<s n=\"1\">":                        {Name: "s", Keys: pairs("n", "1")},
		"<s   b=\"&lt;\"  a=\"\">":           {Name: "s", Keys: pairs("a", "", "b", "<")},
		"<s a=\"x=y/z' \">":                  {Name: "s", Keys: pairs("a", "x=y/z' ")},
		"<s a=\" b=&quot;1&quot;\">":         {Name: "s", Keys: pairs("a", " b=\"1\"")},
		"<s s=\"s\">":                        {Name: "s", Keys: pairs("s", "s")},
		"<s a=\"1\" A=\"2\" _=\"3\">":        {Name: "s", Keys: pairs("A", "2", "_", "3", "a", "1")},
		"<s a9=\"1\" a=\"2\" a-=\"3\">":      {Name: "s", Keys: pairs("a", "2", "a-", "3", "a9", "1")},
		"<s a=\"é&#233;&#38;amp;\">":         {Name: "s", Keys: pairs("a", "éé&amp;")},
		"<" + strings.Repeat("n", 32) + ">":  {Name: strings.Repeat("n", 32)},
		"</" + strings.Repeat("n", 32) + ">": {Close: true, Name: strings.Repeat("n", 32)},
		"<s " + strings.Repeat("n", 32) + "=\"\">":                     {Name: "s", Keys: pairs(strings.Repeat("n", 32), "")},
		"<s a=\"" + strings.Repeat("v", 120) + "\">":                   {Name: "s", Keys: pairs("a", strings.Repeat("v", 120))},
		"<s a=\"" + strings.Repeat("&quot;", 120) + "\">":              {Name: "s", Keys: pairs("a", strings.Repeat("\"", 120))},
		"<s h=\"\" g=\"\" f=\"\" e=\"\" d=\"\" c=\"\" b=\"\" a=\"1\">": {Name: "s", Keys: pairs("a", "1", "b", "", "c", "", "d", "", "e", "", "f", "", "g", "", "h", "")},
		"<s" + strings.Repeat(" ", 5000) + "a=\"\">":                   {Name: "s", Keys: pairs("a", "")},
	} {
		if got := parsing(s); !same(got, parsed{t: want}) {
			t.Errorf("ParseTag(%q) = %+v; expected %+v", s, got, want)
		}
	}
}

func TestParseTagSyntaxErrors(t *testing.T) {
	for s, at := range map[string]int{
		"":                       0,
		"s":                      0,
		" <s>":                   0,
		">":                      0,
		"\xff":                   0,
		"<":                      1,
		"<>":                     1,
		"< s>":                   1,
		"<9>":                    1,
		"<->":                    1,
		"<é>":                    1,
		"<<s>":                   1,
		"</":                     2,
		"</>":                    2,
		"</ s>":                  2,
		"<//s>":                  2,
		"</9>":                   2,
		"<s":                     2,
		"<s/>":                   2,
		"<s\t>":                  2,
		"<s\tn=\"1\">":           2,
		"<s\x00>":                2,
		"<s=\"\">":               2,
		"</s":                    3,
		"</s >":                  3,
		"</s a=\"\">":            3,
		"</s/>":                  3,
		"<s ":                    3,
		"<s >":                   3,
		"<s 9=\"\">":             3,
		"<s =\"\">":              3,
		"<s    ":                 6,
		"<s n":                   4,
		"<s n>":                  4,
		"<s n =\"1\">":           4,
		"<s né=\"1\">":           4,
		"<s n=":                  5,
		"<s n=1>":                5,
		"<s n= \"1\">":           5,
		"<s n='1'>":              5,
		"<s n=>":                 5,
		"<s n=\"":                6,
		"<s n=\"<\">":            6,
		"<s n=\">\">":            6,
		"<s n=\"1":               7,
		"<s n=\"1>":              7,
		"<s n=\"1\"":             8,
		"<s n=\"1\"m=\"2\">":     8,
		"<s n=\"1\"/>":           8,
		"<s n=\"1\"\"":           8,
		"<s n=\"1\" >":           9,
		"<s n=\"1\"  ":           10,
		"<s>x":                   3,
		"<s> ":                   3,
		"<s>\n":                  3,
		"<s>>":                   3,
		"<s></s>":                3,
		"</s>\x00":               4,
		"<s n=\"a&b<":            9, // the quote at the end of the raw value is not read
		"<s n=\"a&b":             9,
		"<s n=\"\xff":            7,
		"<s n=\"\n>":             7,
		"<s n=\"&#10;":           11,
		"<s n=\"\" m=\"a&lt;>\"": 16,
	} {
		if got := parsing(s); !same(got, parsed{at: at, e: api.ErrSyntax}) {
			t.Errorf("ParseTag(%q) = %+v; expected offset %d", s, got, at)
		}
	}
}

func TestParseTagErrorsOfNames(t *testing.T) {
	long := strings.Repeat("n", 33)
	eight := " h=\"\" g=\"\" f=\"\" e=\"\" d=\"\" c=\"\" b=\"\" a=\"\""
	for _, c := range []struct {
		s    string
		want parsed
	}{
		{"<" + long + ">", parsed{at: 1, e: api.ErrLimit}},
		{"<" + long, parsed{at: 1, e: api.ErrLimit}},
		{"<" + long + "!", parsed{at: 1, e: api.ErrLimit}},
		{"</" + long + ">", parsed{at: 2, e: api.ErrLimit}},
		{"</" + long, parsed{at: 2, e: api.ErrLimit}},
		{"</" + long + " ", parsed{at: 2, e: api.ErrLimit}},
		{"<s " + long + "=\"\">", parsed{at: 3, e: api.ErrLimit}},
		{"<s " + long, parsed{at: 3, e: api.ErrLimit}},
		{"<s   " + long + "!", parsed{at: 5, e: api.ErrLimit}},
		{"<s é " + long, parsed{at: 3, e: api.ErrSyntax}},
		{"<" + strings.Repeat("n", 1<<20), parsed{at: 1, e: api.ErrLimit}},
		{"<s a=\"1\" a=\"2\">", parsed{at: 9, e: api.ErrDuplicate}},
		{"<s a=\"1\" a=\"2", parsed{at: 9, e: api.ErrDuplicate}},
		{"<s a=\"1\" a", parsed{at: 9, e: api.ErrDuplicate}},
		{"<s a=\"1\"  a!", parsed{at: 10, e: api.ErrDuplicate}},
		{"<s a=\"1\" b=\"\" a=\"2\">", parsed{at: 14, e: api.ErrDuplicate}},
		{"<s b=\"1\" a=\"\" b=\"2\">", parsed{at: 14, e: api.ErrDuplicate}},
		{"<s a=\"&\" a=\"2\">", parsed{at: 6, e: api.ErrSyntax}}, // met before the name is read again
		{"<s" + eight + " i=\"\">", parsed{at: 43, e: api.ErrLimit}},
		{"<s" + eight + " i", parsed{at: 43, e: api.ErrLimit}},
		{"<s" + eight + " i!", parsed{at: 43, e: api.ErrLimit}},
		{"<s" + eight + " a=\"\">", parsed{at: 43, e: api.ErrDuplicate}},
		{"<s" + eight + " h", parsed{at: 43, e: api.ErrDuplicate}},
		{"<s" + eight + " " + long, parsed{at: 43, e: api.ErrLimit}},
		{"<s" + eight + " ", parsed{at: 43, e: api.ErrSyntax}},
		{"<s" + eight + " 9", parsed{at: 43, e: api.ErrSyntax}},
		{"<s" + eight + "x", parsed{at: 42, e: api.ErrSyntax}},
	} {
		if got := parsing(c.s); !same(got, c.want) {
			t.Errorf("ParseTag(%q) = %+v; expected %+v", c.s, got, c.want)
		}
	}
}

func TestParseTagErrorsOfValues(t *testing.T) {
	for raw, want := range map[string]parsed{
		"a&b":                             {at: 7, e: api.ErrSyntax},
		"&":                               {at: 6, e: api.ErrSyntax},
		"&lt;&LT;":                        {at: 10, e: api.ErrSyntax},
		"é&#55296;":                       {at: 8, e: api.ErrSyntax},
		"\xff&":                           {at: 7, e: api.ErrSyntax}, // Unescape before ValidValue
		"\n&x;":                           {at: 7, e: api.ErrSyntax},
		strings.Repeat("v", 200) + "&":    {at: 206, e: api.ErrSyntax},
		"a\n":                             {at: 6, e: api.ErrValue},
		"a&#10;":                          {at: 6, e: api.ErrValue},
		"a&#0;":                           {at: 6, e: api.ErrValue},
		"ab&#127;":                        {at: 6, e: api.ErrValue},
		"a\xff":                           {at: 6, e: api.ErrEncoding},
		"&#10;\xff":                       {at: 6, e: api.ErrEncoding},
		strings.Repeat("v", 121):          {at: 6, e: api.ErrLimit},
		strings.Repeat("v", 120) + "&lt;": {at: 6, e: api.ErrLimit},
		strings.Repeat("\xff", 121):       {at: 6, e: api.ErrLimit},
	} {
		for _, after := range []string{"\">", "\"", "\"!", "\" n=\"\">"} { // the quote at the end is met first
			s := "<s n=\"" + raw + after
			if got := parsing(s); !same(got, want) {
				t.Errorf("ParseTag(%q) = %+v; expected %+v", s, got, want)
			}
		}
	}
	s := "<s a=\"\"  bc=\"1&\">"
	if got := parsing(s); !same(got, parsed{at: 14, e: api.ErrSyntax}) {
		t.Errorf("ParseTag(%q) = %+v", s, got)
	}
}

func TestParseTagOfAllSamples(t *testing.T) {
	pieces := []string{
		"<", "</", "/", ">", "s", "a", "9", "-", " ", "  ", "=", "\"", "=\"", "\">", "&", "&lt;", "&#9;", "é", "\xff", "\n", "\t", " a=\"1\"", " b=\"\"",
	}
	for _, begin := range []string{"", "<s", "</s", "<s a=\"", "<s a=\"1\""} {
		for _, s := range samples(begin, 3, pieces) {
			compareTag(t, s)
		}
	}
}

func TestParseTagOfLongSamples(t *testing.T) {
	n := strings.Repeat("n", 32)
	v := strings.Repeat("v", 119)
	keys := " a=\"\" b=\"\" c=\"\" d=\"\" e=\"\" f=\"\" g=\"\""
	pieces := []string{
		" ", ">", "\"", "=\"", "!", n, "n", v, "v", "&lt;", "&", "é", "\xff",
		keys, " h=\"\"", " i=\"", " a",
	}
	for _, begin := range []string{"<", "</" + n, "<s ", "<s n=\"", "<s" + keys + " h"} {
		for _, s := range samples(begin, 3, pieces) {
			compareTag(t, s)
		}
	}
}

func TestParseTagOfBytesInATag(t *testing.T) {
	tag := "<s n=\"1&lt;\"  m=\"\">"
	for i := range len(tag) + 1 {
		compareTag(t, tag[:i])
		for b := range 256 {
			compareTag(t, tag[:i]+string([]byte{byte(b)})+tag[i:])
			compareTag(t, tag[:i]+string([]byte{byte(b)})+tag[min(i+1, len(tag)):])
		}
	}
}

// P4.4

func TestFormatTag(t *testing.T) {
	for _, c := range []struct {
		t    markup.Tag
		want string
	}{
		{markup.Tag{Name: "s"}, "<s>"},
		{markup.Tag{Name: "s", Keys: []api.Pair{}}, "<s>"},
		{markup.Tag{Close: true, Name: "s"}, "</s>"},
		{markup.Tag{Close: true, Name: "s", Keys: []api.Pair{}}, "</s>"},
		{markup.Tag{Name: "s", Keys: pairs("b", "<", "a", "")}, "<s a=\"\" b=\"&lt;\">"},
		{markup.Tag{Name: "s", Keys: pairs("a", "1", "_", "2", "A", "3")}, "<s A=\"3\" _=\"2\" a=\"1\">"},
		{markup.Tag{Name: "s", Keys: pairs("a9", "1", "a-", "2", "a", "3")}, "<s a=\"3\" a-=\"2\" a9=\"1\">"},
		{markup.Tag{Name: "s", Keys: pairs("a", "\"&amp;' é>")}, "<s a=\"&quot;&amp;amp;' é&gt;\">"},
		{markup.Tag{Name: strings.Repeat("n", 32), Keys: pairs(strings.Repeat("k", 32), strings.Repeat("&", 120))},
			"<" + strings.Repeat("n", 32) + " " + strings.Repeat("k", 32) + "=\"" + strings.Repeat("&amp;", 120) + "\">"},
	} {
		if got, e := markup.FormatTag(c.t); got != c.want || e != api.OK {
			t.Errorf("FormatTag(%+v) = %q, %d; expected %q", c.t, got, e, c.want)
		}
	}
}

func TestFormatTagErrors(t *testing.T) {
	eight := pairs("a", "", "b", "", "c", "", "d", "", "e", "", "f", "", "g", "", "h", "")
	nine := append(slices.Clone(eight), pairs("i", "")...)
	for i, c := range []struct {
		t markup.Tag
		e api.Errno
	}{
		{markup.Tag{}, api.ErrName},
		{markup.Tag{Name: "9"}, api.ErrName},
		{markup.Tag{Name: "s "}, api.ErrName},
		{markup.Tag{Name: strings.Repeat("n", 33)}, api.ErrName},
		{markup.Tag{Close: true}, api.ErrName},
		{markup.Tag{Close: true, Name: "9", Keys: pairs("a", "")}, api.ErrName},
		{markup.Tag{Name: "é", Keys: nine}, api.ErrName},
		{markup.Tag{Close: true, Name: "s", Keys: pairs("a", "")}, api.ErrCount},
		{markup.Tag{Close: true, Name: "s", Keys: pairs("", "\n")}, api.ErrCount},
		{markup.Tag{Name: "s", Keys: eight}, api.OK},
		{markup.Tag{Name: "s", Keys: nine}, api.ErrCount},
		{markup.Tag{Name: "s", Keys: append(slices.Clone(eight), pairs("", "\n")...)}, api.ErrCount},
		{markup.Tag{Name: "s", Keys: append(slices.Clone(eight), pairs("a", "")...)}, api.ErrCount},
		{markup.Tag{Name: "s", Keys: pairs("", "")}, api.ErrName},
		{markup.Tag{Name: "s", Keys: pairs("a", "", "a b", "")}, api.ErrName},
		{markup.Tag{Name: "s", Keys: pairs(strings.Repeat("n", 33), "")}, api.ErrName},
		{markup.Tag{Name: "s", Keys: pairs("", "\n")}, api.ErrName},
		{markup.Tag{Name: "s", Keys: pairs("", "", "", "")}, api.ErrName},
		{markup.Tag{Name: "s", Keys: pairs("a", "\n", "", "")}, api.ErrValue},
		{markup.Tag{Name: "s", Keys: pairs("z", "\n", "a", "\xff")}, api.ErrValue}, // the order that is given, not that of the text
		{markup.Tag{Name: "s", Keys: pairs("a", "", "a", "")}, api.ErrDuplicate},
		{markup.Tag{Name: "s", Keys: pairs("b", "", "a", "", "b", "")}, api.ErrDuplicate},
		{markup.Tag{Name: "s", Keys: pairs("a", "", "b", "", "a", "\n")}, api.ErrDuplicate},
		{markup.Tag{Name: "s", Keys: pairs("a", "", "a", "", "", "")}, api.ErrDuplicate},
		{markup.Tag{Name: "s", Keys: pairs("a", "\n", "a", "")}, api.ErrValue},
		{markup.Tag{Name: "s", Keys: pairs("a", "\x7f")}, api.ErrValue},
		{markup.Tag{Name: "s", Keys: pairs("a", "\n\xff")}, api.ErrEncoding},
		{markup.Tag{Name: "s", Keys: pairs("a", strings.Repeat("\xff", 121))}, api.ErrLimit},
		{markup.Tag{Name: "s", Keys: pairs("a", strings.Repeat("v", 121), "", "")}, api.ErrLimit},
	} {
		got, e := markup.FormatTag(c.t)
		if e != c.e || e != api.OK && got != "" {
			t.Errorf("%d: FormatTag(%+v) = %q, %d; expected %d", i, c.t, got, e, c.e)
		}
	}
}

func TestFormatTagLeavesItsArgument(t *testing.T) {
	keys := pairs("c", "1", "b", "2", "a", "3", "A", "4")
	before := slices.Clone(keys)
	if got, e := markup.FormatTag(markup.Tag{Name: "s", Keys: keys[:3]}); got != "<s a=\"3\" b=\"2\" c=\"1\">" || e != api.OK {
		t.Errorf("%q, %d", got, e)
	}
	if !slices.Equal(keys, before) {
		t.Errorf("FormatTag has changed the keys to %v", keys)
	}
}

// checkFormat compares FormatTag with the reference and reads back what it returns.
func checkFormat(t *testing.T, tag markup.Tag) {
	t.Helper()
	got, e := markup.FormatTag(tag)
	if want, wantE := format(tag); got != want || e != wantE {
		t.Fatalf("FormatTag(%+v) = %q, %d; expected %q, %d", tag, got, e, want, wantE)
	}
	if e != api.OK {
		return
	}
	want := markup.Tag{Close: tag.Close, Name: tag.Name, Keys: slices.Clone(tag.Keys)}
	slices.SortFunc(want.Keys, func(a, b api.Pair) int { return strings.Compare(a.Name, b.Name) })
	if back := parsing(got); !same(back, parsed{t: want}) {
		t.Fatalf("ParseTag(%q) = %+v; expected %+v", got, back, want)
	}
}

func TestFormatTagOfManyTags(t *testing.T) {
	next := random(4)
	good := []string{"s", "np", "_", "A", "Z-9", "a", "a-", "a9", "aa", "b", "id", strings.Repeat("n", 32)}
	bad := []string{"", "9", "a b", "é", strings.Repeat("n", 33)}
	values := []string{"", "1", "a&b", "<\">", "&amp;", "é😀", " x ", "/='", strings.Repeat("&", 120)}
	wrong := []string{"\n", "\x7f", "\xff", "\n\xff", strings.Repeat("v", 121)}
	pick := func(usual, rare []string) string {
		if next(20) == 0 {
			return rare[next(len(rare))]
		}
		return usual[next(len(usual))]
	}
	for range 50000 {
		tag := markup.Tag{Close: next(10) == 0, Name: pick(good, bad)}
		order := next(10)
		if tag.Close && next(2) == 0 {
			order = 0
		}
		for range order {
			name := pick(good, bad)
			if next(2) == 0 {
				name += strconv.Itoa(next(1000))
			}
			tag.Keys = append(tag.Keys, api.Pair{Name: name, Value: pick(values, wrong)})
		}
		checkFormat(t, tag)
	}
}

func FuzzTag(f *testing.F) {
	f.Add("<s n=\"1\">", "n", "1", "m", "&", false)
	f.Add("</s>", "", "\xff", "n", "", true)
	f.Fuzz(func(t *testing.T, s, name, value, name2, value2 string, closing bool) {
		compareTag(t, s)
		if got := parsing(s); got.e == api.OK {
			checkFormat(t, got.t)
		}
		checkFormat(t, markup.Tag{Close: closing, Name: name})
		checkFormat(t, markup.Tag{Close: closing, Name: name, Keys: pairs(name2, value2, name, value)})
	})
}
