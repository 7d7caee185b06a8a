package lexicon_test

import (
	"slices"
	"testing"

	"corpora/lexicon"
)

// P13.3

func TestPrefix(t *testing.T) {
	x, _ := built(t, "b", "a", "ab", "a", "abc", "ac", "é", "è", "e")
	// The words are a, ab, abc, ac, b, e, è, é.
	for p, want := range map[string][2]int{
		"": {0, 8}, "a": {0, 4}, "ab": {1, 3}, "abc": {2, 3}, "ac": {3, 4}, "b": {4, 5}, "e": {5, 6}, "é": {7, 8}, "è": {6, 7}, "\xc3": {6, 8},
		"abcd": {}, "aa": {}, "abb": {}, "ad": {}, "A": {}, "ba": {}, "c": {}, "f": {}, "\x00": {}, "\xff": {}, "\xc3\xa7": {}, "\xa9": {}, long(121): {}, "ab\xff": {}, "a\x00": {}, "é\xa9": {},
	} {
		if from, to := x.Prefix(p); from != want[0] || to != want[1] {
			t.Errorf("Prefix(%q) = %d, %d; expected %d", p, from, to, want)
		}
	}
	none, _ := built(t)
	for _, p := range []string{"", "a", "\xff"} {
		if from, to := none.Prefix(p); from != 0 || to != 0 {
			t.Errorf("Prefix(%q) of no words = %d, %d", p, from, to)
		}
	}
	empty, _ := built(t, "")
	if from, to := empty.Prefix(""); from != 0 || to != 1 {
		t.Errorf("Prefix of the empty word = %d, %d", from, to)
	}
}

func TestSuffix(t *testing.T) {
	x, _ := built(t, "b", "a", "ab", "a", "cab", "é", "cé", "©", "c©", "eé", "ª", "")
	// The words are "", a, ab, b, cab, c©, cé, eé, ©, ª, é; their reverses in order "", a, b, ba, bac, ©, ©c, ª, é, éc, ée.
	for s, want := range map[string][]int{
		"": {0, 1, 3, 2, 4, 8, 5, 9, 10, 6, 7}, "a": {1}, "b": {3, 2, 4}, "ab": {2, 4}, "cab": {4}, "é": {10, 6, 7}, "\xa9": {8, 5, 10, 6, 7}, "©": {8, 5}, "cé": {6}, "eé": {7},
		"xb": nil, "xcab": nil, "B": nil, "c": nil, "\xc3": nil, "\xff": nil, "\xc3\xa9\xa9": nil, "a\xa9": nil, long(121): nil, "b\x00": nil,
	} {
		if got := x.Suffix(s); !slices.Equal(got, want) {
			t.Errorf("Suffix(%q) = %d; expected %d", s, got, want)
		}
	}
	none, _ := built(t)
	for _, s := range []string{"", "a", "\xff"} {
		if got := none.Suffix(s); len(got) != 0 {
			t.Errorf("Suffix(%q) of no words = %d", s, got)
		}
	}
}

func TestByReverse(t *testing.T) {
	for _, c := range []struct {
		values []string
		want   []int
	}{
		{nil, nil}, {[]string{""}, []int{0}}, {[]string{"b", "a", "ab", "a"}, []int{0, 2, 1}}, {[]string{"c", "b", "a"}, []int{0, 1, 2}},
		{[]string{"az", "by", "cx"}, []int{2, 1, 0}}, {[]string{"", "a", "aa", "b", "ba"}, []int{0, 1, 2, 4, 3}},
		// Code points are reversed, not bytes: as reversed bytes, ɂ (C9 82) would stand before è (C3 A8).
		{[]string{"è", "ɂ"}, []int{0, 1}}, {[]string{"€", "😀", "é"}, []int{0, 1, 2}}, {[]string{"aé", "bè", "cz"}, []int{2, 1, 0}},
		{[]string{"ªb", "©c", "éa"}, []int{2, 1, 0}},
	} {
		x, _ := built(t, c.values...)
		if got := x.ByReverse(); !slices.Equal(got, c.want) {
			t.Errorf("ByReverse of %q = %d; expected %d", c.values, got, c.want)
		}
	}
}

func TestByCount(t *testing.T) {
	for _, c := range []struct {
		values []string
		want   []int
	}{
		{nil, nil}, {[]string{"a"}, []int{0}}, {[]string{"b", "a", "ab", "a"}, []int{0, 1, 2}}, {[]string{"c", "b", "a"}, []int{0, 1, 2}},
		{[]string{"a", "b", "b", "c", "c", "c"}, []int{2, 1, 0}}, {[]string{"b", "a", "d", "c", "d", "b"}, []int{1, 3, 0, 2}}, {[]string{"c", "c", "b", "a", "a", "b"}, []int{0, 1, 2}},
		{append(times(4095, "b"), "a"), []int{1, 0}}, {append(times(300, "c"), append(times(255, "a"), times(256, "b")...)...), []int{2, 1, 0}},
	} {
		x, _ := built(t, c.values...)
		if got := x.ByCount(); !slices.Equal(got, c.want) {
			t.Errorf("ByCount of %.50q = %d; expected %d", c.values, got, c.want)
		}
	}
}

// Many words of few counts show that equal counts are in order.
func TestOrdersOfManyWords(t *testing.T) {
	values := append(numerals(1024), cycle(2000, 500)...)
	x, _ := built(t, values...)
	words := wordsOf(values)
	byCount, byReverse := x.ByCount(), x.ByReverse()
	for i := range 1023 {
		a, b := byCount[i], byCount[i+1]
		if x.Count(a) < x.Count(b) || x.Count(a) == x.Count(b) && a >= b {
			t.Fatalf("ByCount has the numbers %d and %d with the counts %d and %d", a, b, x.Count(a), x.Count(b))
		}
		if a, b := words[byReverse[i]], words[byReverse[i+1]]; reversed(a) >= reversed(b) {
			t.Fatalf("ByReverse has %q before %q", a, b)
		}
	}
}

func TestOrdersAreNewMemory(t *testing.T) {
	x, _ := built(t, "b", "a", "ab", "a", "ba")
	code := x.Encode()
	for name, call := range map[string]func(*lexicon.Lexicon) []int{
		"ByReverse": (*lexicon.Lexicon).ByReverse, "ByCount": (*lexicon.Lexicon).ByCount, "Suffix": func(x *lexicon.Lexicon) []int { return x.Suffix("") },
	} {
		first, second := call(x), call(x)
		want := slices.Clone(second)
		if len(want) != 4 {
			t.Fatalf("%s = %d", name, want)
		}
		first = first[:cap(first)]
		for i := range first {
			first[i] = -9
		}
		if !slices.Equal(second, want) || !slices.Equal(call(x), want) {
			t.Errorf("results of %s share memory: %d", name, second)
		}
	}
	if !slices.Equal(x.Encode(), code) {
		t.Error("the lexicon has changed")
	}
}
