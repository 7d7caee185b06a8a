package feature_test

import (
	"slices"
	"strconv"
	"strings"
	"testing"

	"corpora/api"
	"corpora/feature"
)

// P5.1

func TestParse(t *testing.T) {
	for s, want := range map[string][]string{
		"|":                        nil,
		"|a|":                      {"a"},
		"|Nom|Sg|":                 {"Nom", "Sg"},
		"|A|B|a|b|":                {"A", "B", "a", "b"},
		"|a|a |aa|b|":              {"a", "a ", "aa", "b"},
		"|a b|a-b|a=b|":            {"a b", "a-b", "a=b"},
		"|10|9|":                   {"10", "9"}, // bytewise, not as numbers
		"|Z|z|~|é|":                {"Z", "z", "~", "é"},
		"| |  |":                   {" ", "  "},
		"|\u0080|é|€|\uFFFD|😀|":    {"\u0080", "é", "€", "\uFFFD", "😀"},
		"|&|<|":                    {"&", "<"},
		"|¦|ǀ|｜|":                  {"¦", "ǀ", "｜"}, // other characters that look alike
		"|" + long("a", 118) + "|": {long("a", 118)},
		"|" + long("a", 58) + "|" + long("b", 59) + "|": {long("a", 58), long("b", 59)},
	} {
		if got := parsing(s); !got.equal(parsed{want, api.OK}) {
			t.Errorf("Parse(%q) = %+v; expected %q", s, got, want)
		}
	}
}

func TestParseErrors(t *testing.T) {
	for s, want := range map[string]api.Errno{
		"":                                      api.ErrSyntax,
		"a":                                     api.ErrSyntax,
		"|a":                                    api.ErrSyntax,
		"a|":                                    api.ErrSyntax,
		"a|b":                                   api.ErrSyntax,
		"a|b|":                                  api.ErrSyntax,
		"|a|b":                                  api.ErrSyntax,
		"||":                                    api.ErrSyntax,
		"|||":                                   api.ErrSyntax,
		"||a|":                                  api.ErrSyntax,
		"|a||":                                  api.ErrSyntax,
		"|a||b|":                                api.ErrSyntax,
		" |a|":                                  api.ErrSyntax,
		"|a| ":                                  api.ErrSyntax,
		"|b|a":                                  api.ErrSyntax, // before ErrOrder
		"b|a|":                                  api.ErrSyntax,
		"|b|a||":                                api.ErrSyntax,
		"|b||a|":                                api.ErrSyntax,
		"||b|a|":                                api.ErrSyntax,
		"|a|a|":                                 api.ErrOrder,
		"|b|a|":                                 api.ErrOrder,
		"|a|A|":                                 api.ErrOrder,
		"|é|z|":                                 api.ErrOrder,
		"|9|10|":                                api.ErrOrder,
		"|aa|a|":                                api.ErrOrder,
		"|a|b|b|":                               api.ErrOrder,
		"|a|c|b|":                               api.ErrOrder,
		"|b|c|a|":                               api.ErrOrder,
		"|a|b|a|":                               api.ErrOrder,
		"|é|é|":                                 api.ErrOrder,
		"|\n|":                                  api.ErrValue,
		"|a|\x7f|":                              api.ErrValue,
		"\n":                                    api.ErrValue, // before ErrSyntax
		"||\x00":                                api.ErrValue,
		"|b|a\t|":                               api.ErrValue, // before ErrOrder
		"|\xff|":                                api.ErrEncoding,
		"\xff":                                  api.ErrEncoding,
		"|\n|\xc3":                              api.ErrEncoding,
		"|\xc3|\xa9|" + strings.Repeat("|", 99): api.ErrEncoding,
		"|" + long("a", 119) + "|":              api.ErrLimit,
		"|" + long("a", 59) + "|" + long("b", 59) + "|":       api.ErrLimit,
		"|" + long("b", 59) + "|" + long("a", 59) + "|":       api.ErrLimit,
		strings.Repeat("|", 120):                              api.ErrSyntax,
		strings.Repeat("|", 121):                              api.ErrLimit,
		"|" + strings.Repeat("é", 59) + "|a":                  api.ErrLimit, // bytes count, not code points
		strings.Repeat("\xff", 121):                           api.ErrLimit,
		"|\n" + long("a", 120):                                api.ErrLimit,
		strings.Repeat("|a", 1<<20) + "|":                     api.ErrLimit,
		"|" + long("a", 58) + "|" + long("b", 59) + "é":       api.ErrLimit,
		"|" + long("b", 58) + "|" + long("a", 59) + "|":       api.ErrOrder,
		"|" + long("b", 58) + "|" + long("a", 58) + "|" + "|": api.ErrSyntax,
	} {
		if got := parsing(s); !got.equal(parsed{nil, want}) {
			t.Errorf("Parse(%q) = %+v; expected %d", s, got, want)
		}
	}
}

func TestParseOfAllSamples(t *testing.T) {
	for _, list := range samples(6, []string{"|", "a", "b", "B", "é", "\xff", "\n"}) {
		checkParse(t, strings.Join(list, ""))
	}
	for _, list := range samples(5, []string{"|", "|a|", "a", "ab", "|b", "b|", " "}) {
		checkParse(t, strings.Join(list, ""))
	}
	for _, begin := range []string{"", "|", "|" + long("a", 115), "|" + strings.Repeat("é", 58), strings.Repeat("|", 117)} {
		for _, list := range samples(5, []string{"|", "a", "b", "\xff", "\n"}) {
			checkParse(t, begin+strings.Join(list, ""))
		}
	}
}

func TestParseOfBytesInASet(t *testing.T) {
	set := "|A|a|é|"
	for i := range len(set) + 1 {
		checkParse(t, set[:i])
		checkParse(t, set[i:])
		for b := range 256 {
			checkParse(t, set[:i]+string([]byte{byte(b)})+set[i:])
			checkParse(t, set[:i]+string([]byte{byte(b)})+set[min(i+1, len(set)):])
		}
	}
}

func TestParseReturnsNewMemory(t *testing.T) {
	first := parsing("|a|b|")
	second := parsing("|a|b|")
	first.list[0] = "c"
	_ = append(first.list[:1], "d")
	if !second.equal(parsed{[]string{"a", "b"}, api.OK}) || !parsing("|a|b|").equal(second) {
		t.Errorf("results of Parse share memory: %+v", second)
	}
}

// P5.2

func TestFormat(t *testing.T) {
	for _, c := range []struct {
		list []string
		want string
	}{
		{nil, "|"},
		{[]string{}, "|"},
		{[]string{"a"}, "|a|"},
		{[]string{"b", "a", "b"}, "|a|b|"},
		{[]string{"a", "a", "a"}, "|a|"},
		{[]string{"a", "b", "c"}, "|a|b|c|"},
		{[]string{"c", "b", "a"}, "|a|b|c|"},
		{[]string{"b", "c", "a", "d", "c"}, "|a|b|c|d|"},
		{[]string{"é", "z", "Z"}, "|Z|z|é|"},
		{[]string{"9", "10"}, "|10|9|"},
		{[]string{"b", "aa", "a", "a "}, "|a|a |aa|b|"},
		{[]string{"😀", "\uFFFD", " "}, "| |\uFFFD|😀|"},
		{[]string{"<", "&amp;"}, "|&amp;|<|"},
		{[]string{long("a", 118)}, "|" + long("a", 118) + "|"},
		{[]string{strings.Repeat("é", 59)}, "|" + strings.Repeat("é", 59) + "|"},
		{[]string{long("b", 59), long("a", 58)}, "|" + long("a", 58) + "|" + long("b", 59) + "|"},
		{[]string{long("a", 118), long("a", 118)}, "|" + long("a", 118) + "|"},    // a duplicate has no bytes in the text
		{append(slices.Repeat([]string{"b", "d"}, 1<<16), "c", "a"), "|a|b|c|d|"}, // the last elements count as well
	} {
		if got := formatting(c.list); got != (written{c.want, api.OK}) {
			t.Errorf("Format(%q) = %+v; expected %q", c.list, got, c.want)
		}
	}
}

func TestFormatErrors(t *testing.T) {
	full := []string{long("a", 59), long("b", 59)} // together one byte too long
	for i, c := range []struct {
		list []string
		e    api.Errno
	}{
		{[]string{""}, api.ErrSyntax},
		{[]string{"a", ""}, api.ErrSyntax},
		{[]string{"|"}, api.ErrSyntax},
		{[]string{"|a|"}, api.ErrSyntax},
		{[]string{"a|b"}, api.ErrSyntax},
		{[]string{"a|"}, api.ErrSyntax},
		{[]string{"|a"}, api.ErrSyntax},
		{[]string{"a", "b|c", "d"}, api.ErrSyntax},
		{[]string{"\n"}, api.ErrValue},
		{[]string{"a\x7f"}, api.ErrValue},
		{[]string{"\xff"}, api.ErrEncoding},
		{[]string{"é", "\xc3"}, api.ErrEncoding},
		{[]string{"|\n"}, api.ErrValue}, // the error of the value before ErrSyntax
		{[]string{"|\xff"}, api.ErrEncoding},
		{[]string{strings.Repeat("|", 120)}, api.ErrSyntax},
		{[]string{strings.Repeat("|", 121)}, api.ErrLimit},
		{[]string{"\n", ""}, api.ErrValue}, // the first element with an error decides
		{[]string{"", "\n"}, api.ErrSyntax},
		{[]string{"\xff", "\n"}, api.ErrEncoding},
		{[]string{"\n", "\xff"}, api.ErrValue},
		{[]string{"z", "\n", "a|"}, api.ErrValue},
		{[]string{"z", "a|", "\n"}, api.ErrSyntax},
		{[]string{long("a", 121), ""}, api.ErrLimit},
		{[]string{"", long("a", 121)}, api.ErrSyntax},
		{[]string{long("a", 119)}, api.ErrLimit},
		{[]string{long("a", 120)}, api.ErrLimit},
		{[]string{long("a", 120), ""}, api.ErrSyntax}, // a valid value; the text counts after all elements
		{[]string{long("a", 119), "\n"}, api.ErrValue},
		{full, api.ErrLimit},
		{append(slices.Clone(full), "\xff"), api.ErrEncoding},
		{append(slices.Clone(full), "a|"), api.ErrSyntax},
		{append(slices.Clone(full), full...), api.ErrLimit},
		{strings.Split(strings.Repeat("é", 60), ""), api.OK},
		{strings.Split("ABCDEFGHIJKLMNOPQRSTUVWXYZabcdefghijklmnopqrstuvwxyz0123456", ""), api.OK}, // 59 features of one byte
		{strings.Split("ABCDEFGHIJKLMNOPQRSTUVWXYZabcdefghijklmnopqrstuvwxyz01234567", ""), api.ErrLimit},
	} {
		got := formatting(c.list)
		if got.e != c.e || c.e != api.OK && got.s != "" {
			t.Errorf("%d: Format(%q) = %+v; expected %d", i, c.list, got, c.e)
		}
		checkFormat(t, c.list)
	}
}

func TestFormatOfAllSamples(t *testing.T) {
	for _, list := range samples(5, []string{"a", "b", "aa", "B", "é", "", "|"}) {
		checkFormat(t, list)
	}
	for _, list := range samples(4, []string{
		"a", "\n", "\xff", "a|b", "", long("a", 38), long("b", 39), long("c", 58), long("d", 118), long("e", 119), long("f", 121),
	}) {
		checkFormat(t, list)
	}
}

func TestFormatOfManyFeatures(t *testing.T) {
	list := make([]string, 1<<20)
	for i := range list {
		list[i] = strconv.Itoa(len(list) - i)
	}
	if got := formatting(list); got != (written{"", api.ErrLimit}) {
		t.Errorf("Format of %d features = %+v", len(list), got)
	}
	list[len(list)-1] = "|"
	if got := formatting(list); got != (written{"", api.ErrSyntax}) {
		t.Errorf("Format of %d features and a bar = %+v", len(list)-1, got)
	}
}

func TestFormatLeavesItsArgument(t *testing.T) {
	list := []string{"c", "b", "a", "b", "d"}
	before := slices.Clone(list)
	if got := formatting(list[:3]); got != (written{"|a|b|c|", api.OK}) {
		t.Errorf("%+v", got)
	}
	if !slices.Equal(list, before) {
		t.Errorf("Format has changed its list to %q", list)
	}
}

// P5.3

func TestHas(t *testing.T) {
	for _, c := range []struct {
		s, f string
		want bool
	}{
		{"|a|b|", "a", true},
		{"|a|b|", "b", true},
		{"|A|a|é|", "a", true},
		{"|A|a|é|", "é", true},
		{"|a|b|", "c", false},
		{"|a|b|", "A", false},
		{"|", "a", false},
		{"|", "", false},
		{"|", "|", false},
		{"|a|b|", "", false},
		{"|a|b|", "|", false},
		{"|a|b|", "a|", false},
		{"|a|b|", "a|b", false}, // a part of the text, but not a feature
		{"|a|b|", "|a|", false},
		{"|ab|", "a", false},
		{"|ab|", "b", false},
		{"|a|", "ab", false},
		{"|é|", "\xc3", false},
		{"|a|", "\xff", false},
		{"|a|", "\n", false},
		{"|" + long("a", 118) + "|", long("a", 118), true},
		{"|" + long("a", 118) + "|", long("a", 117), false},
		{"|a|", strings.Repeat("a", 1<<20), false},
		{"", "", false}, // not texts of sets
		{"", "a", false},
		{"a", "a", false},
		{"|a", "a", false},
		{"a|", "a", false},
		{"||", "", false},
		{"|a||", "a", false},
		{"|b|a|", "a", false},
		{"|b|a|", "b", false},
		{"|a|a|", "a", false},
		{"|a|\n|", "a", false},
		{"|a|\xff|", "a", false},
		{"|a|\xff|", "\xff", false},
		{"|\n|", "\n", false},
		{"|a|" + long("b", 117) + "|", "a", false},
	} {
		if got := feature.Has(c.s, c.f); got != c.want {
			t.Errorf("Has(%q, %q) = %t", c.s, c.f, got)
		}
	}
}

func TestHasOfAllSamples(t *testing.T) {
	pieces := []string{"|", "a", "b", "é", "\xff"}
	for _, list := range samples(5, pieces) {
		for _, f := range samples(2, pieces) {
			checkHas(t, strings.Join(list, ""), strings.Join(f, ""))
		}
	}
}

func TestSets(t *testing.T) {
	for _, c := range []struct {
		a, b, union, both string
		subset            bool
	}{
		{"|", "|", "|", "|", true},
		{"|", "|a|", "|a|", "|", true},
		{"|a|", "|", "|a|", "|", false},
		{"|a|", "|a|", "|a|", "|a|", true},
		{"|a|", "|b|", "|a|b|", "|", false},
		{"|b|", "|a|", "|a|b|", "|", false},
		{"|a|b|", "|b|c|", "|a|b|c|", "|b|", false},
		{"|b|c|", "|a|b|", "|a|b|c|", "|b|", false},
		{"|a|c|", "|a|b|c|", "|a|b|c|", "|a|c|", true},
		{"|a|b|c|", "|a|c|", "|a|b|c|", "|a|c|", false},
		{"|a|c|e|", "|b|d|", "|a|b|c|d|e|", "|", false},
		{"|a|", "|ab|", "|a|ab|", "|", false}, // a part of a feature is not the feature
		{"|ab|", "|a|b|", "|a|ab|b|", "|", false},
		{"|a|", "|A|", "|A|a|", "|", false},
		{"|é|", "|z|é|", "|z|é|", "|é|", true},
		{"| |", "|  |", "| |  |", "|", false},
		{"|" + long("a", 118) + "|", "|" + long("a", 118) + "|", "|" + long("a", 118) + "|", "|" + long("a", 118) + "|", true},
		{"|" + long("a", 58) + "|", "|" + long("b", 59) + "|", "|" + long("a", 58) + "|" + long("b", 59) + "|", "|", false},
	} {
		want := compared{written{c.union, api.OK}, written{c.both, api.OK}, c.subset, api.OK}
		if got := comparing(c.a, c.b); got != want {
			t.Errorf("Union, Intersect and Subset(%q, %q) = %+v; expected %+v", c.a, c.b, got, want)
		}
	}
}

func TestSetsErrors(t *testing.T) {
	for _, c := range []struct {
		a, b string
		e    api.Errno
	}{
		{"", "|", api.ErrSyntax},
		{"|", "", api.ErrSyntax},
		{"a", "|a|", api.ErrSyntax},
		{"|a|", "a", api.ErrSyntax},
		{"||", "|b|a|", api.ErrSyntax}, // the error of the first set, whatever is wrong with the second one
		{"|b|a|", "||", api.ErrOrder},
		{"\n", "\xff", api.ErrValue},
		{"\xff", "\n", api.ErrEncoding},
		{"|a|a|", "\n", api.ErrOrder},
		{"|", "|b|a|", api.ErrOrder},
		{"|", "\n", api.ErrValue},
		{"|", "\xff", api.ErrEncoding},
		{"|a|", "|" + long("a", 119) + "|", api.ErrLimit},
		{"|" + long("a", 119) + "|", "", api.ErrLimit},
		{"", "|" + long("a", 119) + "|", api.ErrSyntax},
		{"|" + long("a", 118) + "|", "|b", api.ErrSyntax}, // before the length of the union
		{"|" + long("a", 118) + "|", "|c|b|", api.ErrOrder},
	} {
		want := compared{written{"", c.e}, written{"", c.e}, false, c.e}
		if got := comparing(c.a, c.b); got != want {
			t.Errorf("Union, Intersect and Subset(%q, %q) = %+v; expected %d", c.a, c.b, got, c.e)
		}
	}
}

func TestUnionThatIsTooLong(t *testing.T) {
	for _, c := range []struct {
		a, b   string
		both   string
		subset bool
	}{
		{"|" + long("a", 59) + "|", "|" + long("b", 59) + "|", "|", false},
		{"|" + long("a", 118) + "|", "|b|", "|", false},
		{"|b|", "|" + long("a", 118) + "|", "|", false},
		{"|" + long("a", 100) + "|c|", "|c|" + long("d", 17) + "|", "|c|", false},
		{"|" + long("a", 40) + "|" + long("b", 40) + "|", "|" + long("b", 40) + "|" + long("c", 40) + "|", "|" + long("b", 40) + "|", false},
	} {
		want := compared{written{"", api.ErrLimit}, written{c.both, api.OK}, c.subset, api.OK}
		if got := comparing(c.a, c.b); got != want {
			t.Errorf("Union, Intersect and Subset(%q, %q) = %+v; expected %+v", c.a, c.b, got, want)
		}
	}
}

func TestSetsOfAllSubsets(t *testing.T) {
	all := subsets([]string{"A", "a", "aa", "b", "é", long("c", 55), long("d", 56)})
	for _, a := range all {
		for _, b := range all {
			checkSets(t, a, b)
		}
		for _, f := range []string{"A", "a", "aa", "b", "é", "c", long("c", 55), "", "|"} {
			checkHas(t, a, f)
		}
	}
}

func TestSetsOfAllSamples(t *testing.T) {
	all := samples(4, []string{"|", "a", "b", "\xff", "\n"})
	for _, a := range all {
		for _, b := range all {
			checkSets(t, strings.Join(a, ""), strings.Join(b, ""))
		}
	}
}

func TestSetsOfManyFeatures(t *testing.T) {
	next := random(5)
	for range 20000 {
		var texts [2]string
		for i := range texts {
			list := make([]string, next(14))
			for j := range list {
				list[j] = long(strconv.Itoa(next(30)), 2+next(2)*next(9))
			}
			checkFormat(t, list)
			texts[i] = format(list).s // an error leaves "", which is not a set
			checkParse(t, texts[i])
		}
		checkSets(t, texts[0], texts[1])
	}
}

func FuzzSets(f *testing.F) {
	f.Add("|a|b|", "|b|c|", "a")
	f.Add("|b|a|", "\xff", "|")
	f.Fuzz(func(t *testing.T, a, b, one string) {
		checkParse(t, a)
		checkParse(t, b)
		checkHas(t, a, one)
		checkSets(t, a, b)
		list := append(strings.Split(a, "|"), b, one)
		checkFormat(t, list)
		checkFormat(t, slices.DeleteFunc(list, func(s string) bool { return s == "" || strings.Contains(s, "|") }))
	})
}
