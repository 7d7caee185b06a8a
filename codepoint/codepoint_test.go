package codepoint_test

import (
	"math"
	"strings"
	"testing"
	"unicode/utf8"

	"corpora/api"
	"corpora/codepoint"
)

// P1.1

func TestValid(t *testing.T) {
	for s, want := range map[string]bool{
		"":                 true,
		"man":              true,
		"aé€😀":             true,
		"\x00\n\x7f":       true,
		"\uFFFD":           true, // three bytes: a valid unit
		"\U0010FFFF":       true,
		"\xff":             false,
		"a\xff\xfe":        false,
		"\x80":             false, // a continuation byte alone
		"\xc3":             false, // cut off
		"é\xe2\x82":        false,
		"\xc0\x80":         false, // longer than necessary
		"\xed\xa0\x80":     false, // a surrogate
		"\xf4\x90\x80\x80": false, // beyond U+10FFFF
		"\uFFFD\xff":       false,
	} {
		if got := codepoint.Valid(s); got != want {
			t.Errorf("Valid(%q) = %t", s, got)
		}
	}
}

func TestCount(t *testing.T) {
	for s, want := range map[string]int{
		"":                 0,
		"man":              3,
		"aé":               2,
		"a\xff\xfe":        3,
		"\uFFFD\xff\uFFFD": 3,
		"\xed\xa0\x80":     3,
		"\xe2\x82x":        3,
		"😀\x80":            2,
	} {
		if got := codepoint.Count(s); got != want {
			t.Errorf("Count(%q) = %d; expected %d", s, got, want)
		}
	}
}

func TestAt(t *testing.T) {
	s := "aé\xff\uFFFD😀\xe2\x82"
	for _, c := range []struct {
		i        int
		r        rune
		at, size int
		ok       bool
	}{
		{0, 'a', 0, 1, true},
		{1, 0xE9, 1, 2, true},
		{2, 0xFFFD, 3, 1, true},
		{3, 0xFFFD, 4, 3, true},
		{4, 0x1F600, 7, 4, true},
		{5, 0xFFFD, 11, 1, true},
		{6, 0xFFFD, 12, 1, true},
		{7, 0, 0, 0, false},
		{-1, 0, 0, 0, false},
		{math.MaxInt, 0, 0, 0, false},
		{math.MinInt, 0, 0, 0, false},
	} {
		r, at, size, ok := codepoint.At(s, c.i)
		if r != c.r || at != c.at || size != c.size || ok != c.ok {
			t.Errorf("At(%q, %d) = %#x, %d, %d, %t", s, c.i, r, at, size, ok)
		}
	}
	if r, at, size, ok := codepoint.At("", 0); r != 0 || at != 0 || size != 0 || ok {
		t.Errorf("At of an empty string = %#x, %d, %d, %t", r, at, size, ok)
	}
}

func TestUnitsOfAllSamples(t *testing.T) {
	for _, s := range samples(3) {
		want := reference(s)
		if got := codepoint.Count(s); got != len(want) {
			t.Fatalf("Count(%q) = %d; expected %d", s, got, len(want))
		}
		if got := codepoint.Valid(s); got != utf8.ValidString(s) {
			t.Fatalf("Valid(%q) = %t", s, got)
		}
		for i, u := range want {
			r, at, size, ok := codepoint.At(s, i)
			if r != u.r || at != u.at || size != u.size || !ok {
				t.Fatalf("At(%q, %d) = %#x, %d, %d, %t; expected %v", s, i, r, at, size, ok, u)
			}
		}
		if _, _, _, ok := codepoint.At(s, len(want)); ok {
			t.Fatalf("At(%q, %d) is a unit", s, len(want))
		}
	}
}

// P1.2

func TestPosition(t *testing.T) {
	for _, c := range []struct {
		s            string
		at           int
		line, column int
	}{
		{"a\né!", 0, 1, 1},
		{"a\né!", 1, 1, 2}, // the line feed itself stands at the end of its line
		{"a\né!", 2, 2, 1},
		{"a\né!", 3, 2, 2}, // within é, which begins before the offset
		{"a\né!", 4, 2, 2},
		{"a\né!", 5, 2, 3},
		{"", 0, 1, 1},
		{"ab", -1, 1, 1},
		{"ab", math.MinInt, 1, 1},
		{"ab", 3, 1, 3},
		{"a\nb", math.MaxInt, 2, 2},
		{"\n", 1, 2, 1},
		{"\n\n\n", 3, 4, 1},
		{"ab\n\ncd", 4, 3, 1},
		{"a\r\nb", 2, 1, 3}, // a carriage return is a unit like others
		{"a\u2028b", 4, 1, 3},
		{"😀x", 1, 1, 2},
		{"😀x", 3, 1, 2},
		{"€€", 5, 1, 3},
		{"\xff\xfe", 1, 1, 2},
		{"\xff\n\xe2\x82x", 4, 2, 3},
	} {
		want := api.Pos{Line: c.line, Column: c.column}
		if got := codepoint.Position(c.s, c.at); got != want {
			t.Errorf("Position(%q, %d) = %v; expected %v", c.s, c.at, got, want)
		}
	}
}

func TestPositionOfAllSamples(t *testing.T) {
	for _, s := range samples(3) {
		for at := -1; at <= len(s)+1; at++ {
			end := min(max(at, 0), len(s))
			want := api.Pos{Line: 1 + strings.Count(s[:end], "\n"), Column: 1}
			after := strings.LastIndexByte(s[:end], '\n')
			for _, u := range reference(s) {
				if after < u.at && u.at < end {
					want.Column++
				}
			}
			if got := codepoint.Position(s, at); got != want {
				t.Fatalf("Position(%q, %d) = %v; expected %v", s, at, got, want)
			}
		}
	}
}

// P1.3

func TestFold(t *testing.T) {
	for s, want := range map[string]string{
		"":                         "",
		"The OLD Man 42":           "the old man 42",
		"ÄÖ×Ж":                     "äö×ж",
		"@AZ[`az{":                 "@az[`az{",
		"\u00BF\u00C0\u00DE\u00DF": "\u00BF\u00E0\u00FE\u00DF",
		"\u00D6\u00D7\u00D8":       "\u00F6\u00D7\u00F8",
		"\u0390\u0391\u03A9\u03AA": "\u0390\u03B1\u03C9\u03AA",
		"\u03A1\u03A2\u03A3":       "\u03C1\u03A2\u03C3",
		"\u03FF\u0400\u040F\u0410": "\u03FF\u0450\u045F\u0430",
		"\u042F\u0430":             "\u044F\u0430",
		"A\xffB":                   "a\xffb",
		"\xc3A":                    "\xc3a",
		"\xff\uFFFD":               "\xff\uFFFD",
		"\u0130\u0141\u1E9E\u212A": "\u0130\u0141\u1E9E\u212A", // upper case, but not in the table
	} {
		if got := codepoint.Fold(s); got != want {
			t.Errorf("Fold(%q) = %q; expected %q", s, got, want)
		}
	}
}

func TestFoldOfEveryCodePoint(t *testing.T) {
	added := map[rune]rune{}
	for _, row := range []struct{ from, to, plus rune }{
		{0x41, 0x5A, 32}, {0xC0, 0xDE, 32}, {0x391, 0x3A9, 32}, {0x400, 0x40F, 80}, {0x410, 0x42F, 32},
	} {
		for r := row.from; r <= row.to; r++ {
			added[r] = row.plus
		}
	}
	added[0xD7], added[0x3A2] = 0, 0
	for r := rune(0); r <= utf8.MaxRune; r++ {
		if !utf8.ValidRune(r) {
			continue
		}
		if got, want := codepoint.Fold(string(r)), string(r+added[r]); got != want {
			t.Errorf("Fold(%q) = %q; expected %q", string(r), got, want)
		}
	}
}

func TestFoldKeepsInvalidUnits(t *testing.T) {
	for b := 0x80; b <= 0xFF; b++ {
		s := string([]byte{byte(b)})
		if got := codepoint.Fold(s); got != s {
			t.Errorf("Fold(%q) = %q", s, got)
		}
	}
}

// P1.4

func TestReverse(t *testing.T) {
	for s, want := range map[string]string{
		"":             "",
		"man":          "nam",
		"aé":           "éa",
		"a\xff€":       "€\xffa",
		"\xe2\x82x":    "x\x82\xe2",
		"\xa9\xc3":     "é", // two invalid units become a valid one
		"\uFFFD\xff😀":  "😀\xff\uFFFD",
		"e\u0301":      "\u0301e",
		"\r\n":         "\n\r",
		"\xed\xa0\x80": "\x80\xa0\xed",
	} {
		if got := codepoint.Reverse(s); got != want {
			t.Errorf("Reverse(%q) = %q; expected %q", s, got, want)
		}
	}
}

func TestReverseOfAllSamples(t *testing.T) {
	for _, s := range samples(3) {
		want := ""
		for _, u := range reference(s) {
			want = s[u.at:u.at+u.size] + want
		}
		if got := codepoint.Reverse(s); got != want {
			t.Fatalf("Reverse(%q) = %q; expected %q", s, got, want)
		}
	}
}

// P1.5

func TestCompare(t *testing.T) {
	for _, c := range []struct {
		a, b string
		want int
	}{
		{"", "", 0},
		{"man", "man", 0},
		{"", "a", -1},
		{"man", "mane", -1}, // a proper prefix
		{"b", "ab", 1},
		{"a", "é", -1},
		{"€", "😀", -1},
		{"\uE000", "\U00010000", -1},
		{"\xff", "\xfe", 1}, // equal lists; bytes decide
		{"\xff", "\uFFFD", 1},
		{"\xc3", "\uFFFD", -1},
		{"\xffa", "\xfeb", -1}, // the lists decide before the bytes
		{"\xff", "\xfea", -1},
		{"\xff", "€", 1}, // 0xFFFD against a lesser code point
		{"\xff", "😀", -1},
		{"\x80", "z", 1},
		{"\xff\xfe", "\xff", 1},
	} {
		if got := codepoint.Compare(c.a, c.b); got != c.want {
			t.Errorf("Compare(%q, %q) = %d; expected %d", c.a, c.b, got, c.want)
		}
		if got := codepoint.Compare(c.b, c.a); got != -c.want {
			t.Errorf("Compare(%q, %q) = %d; expected %d", c.b, c.a, got, -c.want)
		}
	}
}

func TestCompareAllSamples(t *testing.T) {
	all := samples(2)
	for _, a := range all {
		for _, b := range all {
			want := referenceCompare(a, b)
			if got := codepoint.Compare(a, b); got != want {
				t.Fatalf("Compare(%q, %q) = %d; expected %d", a, b, got, want)
			}
			if utf8.ValidString(a) && utf8.ValidString(b) && want != strings.Compare(a, b) {
				t.Fatalf("%q and %q are not in bytewise order", a, b)
			}
		}
	}
}

// P1.6

func TestLawsOfValidStrings(t *testing.T) {
	var valid []string
	for _, s := range samples(2) {
		if utf8.ValidString(s) {
			valid = append(valid, s)
		}
	}
	for _, a := range valid {
		if got := codepoint.Reverse(codepoint.Reverse(a)); got != a {
			t.Fatalf("Reverse(Reverse(%q)) = %q", a, got)
		}
		for _, b := range valid {
			if got := codepoint.Reverse(a + b); got != codepoint.Reverse(b)+codepoint.Reverse(a) {
				t.Fatalf("Reverse(%q + %q) = %q", a, b, got)
			}
			if got := codepoint.Fold(a + b); got != codepoint.Fold(a)+codepoint.Fold(b) {
				t.Fatalf("Fold(%q + %q) = %q", a, b, got)
			}
			if got := codepoint.Count(a + b); got != codepoint.Count(a)+codepoint.Count(b) {
				t.Fatalf("Count(%q + %q) = %d", a, b, got)
			}
		}
	}
}

func TestFoldTwice(t *testing.T) {
	for _, s := range samples(3) {
		once := codepoint.Fold(s)
		if twice := codepoint.Fold(once); twice != once {
			t.Fatalf("Fold(Fold(%q)) = %q; expected %q", s, twice, once)
		}
	}
}
