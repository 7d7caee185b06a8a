package lexicon_test

import (
	"bytes"
	"math"
	"slices"
	"strings"
	"testing"

	"corpora/api"
	"corpora/lexicon"
)

// P13.1

func TestBuild(t *testing.T) {
	for _, c := range []struct{ values, words string }{
		{"b a ab a", "a ab b"}, {"a", "a"}, {"a a a", "a"}, {"b a", "a b"}, {"the old man the boats", "boats man old the"}, {"10 9 1 2", "1 10 2 9"},
		{"a A aa Aa aA AA", "A AA Aa a aA aa"}, {"é z e ~ 😀 \uFFFD € \u0080", "e z ~ \u0080 é € \uFFFD 😀"}, {"\x00 \x7f \n \x00\x00 \x01", "\x00 \x00\x00 \x01 \n \x7f"}, {"e\u0301 é e", "e e\u0301 é"},
	} {
		values, want := strings.Split(c.values, " "), strings.Split(c.words, " ")
		x, numbers := built(t, values...)
		if x.Size() != len(want) {
			t.Errorf("there are %d words of %q", x.Size(), values)
		}
		for n, w := range want {
			if got, ok := x.Word(n); got != w || !ok {
				t.Errorf("word %d of %q is %q, %t; expected %q", n, values, got, ok, w)
			}
		}
		for i, v := range values {
			if want[numbers[i]] != v {
				t.Errorf("the number of %q in %q is %d", v, values, numbers[i])
			}
		}
	}
	x, numbers := built(t, "b", "a", "", "ab", "a", "")
	if !slices.Equal(numbers, []int{3, 1, 0, 2, 1, 0}) || x.Size() != 4 {
		t.Errorf("the numbers are %d of %d", numbers, x.Size())
	}
	for _, none := range [][]string{nil, {}} {
		if x, numbers := built(t, none...); x.Size() != 0 || len(numbers) != 0 {
			t.Errorf("there are %d words of no values", x.Size())
		}
	}
}

func TestBuildOfLimits(t *testing.T) {
	for i, values := range [][]string{
		{long(120)}, {"", strings.Repeat("é", 60), strings.Repeat("😀", 30), long(119), long(120), long(118) + "é"},
		numerals(1024), cycle(4096, 1024), cycle(4096, 1), cycle(4095, 1023), append(times(3073, "0"), numerals(1024)[1:]...), times(4096, ""), times(4096, long(120)),
	} {
		x, numbers := built(t, values...)
		words := wordsOf(values)
		checkWords(t, x, values, words)
		for k, v := range values {
			if words[numbers[k]] != v {
				t.Fatalf("%d: the number of value %d is %d", i, k, numbers[k])
			}
		}
	}
}

func checkWrong(t *testing.T, want api.Errno, values ...string) {
	t.Helper()
	if x, numbers, e := lexicon.Build(values); x != nil || len(numbers) != 0 || e != want {
		t.Errorf("Build of %d values, %.200q..: %d numbers, %d; expected %d", len(values), values[:min(len(values), 4)], len(numbers), e, want)
	}
}

// wrong contains strings that are not valid, with less than 120 bytes.
func wrong() []string {
	return []string{"\xff", "\x80", "\xc3", "a\xc3", "\xa9", "\xe2\x82", "\xc0\x80", "\xed\xa0\x80", "\xf4\x90\x80\x80", "é\xa9", "\xc3\xc3\xa9", "\uFFFD\xff", strings.Repeat("\xff", 120), long(119) + "\xc3"}
}

func TestBuildErrors(t *testing.T) {
	tooLong := []string{long(121), long(122), strings.Repeat("é", 61), long(119) + "é", long(117) + "😀", long(1 << 16), strings.Repeat("\xff", 121), long(120) + "\xff", "\xff" + long(120)}
	for want, bad := range map[api.Errno][]string{api.ErrLimit: tooLong, api.ErrEncoding: wrong()} {
		for _, v := range bad {
			checkWrong(t, want, v)
			checkWrong(t, want, v, v)
			for i := range 4 {
				checkWrong(t, want, slices.Insert([]string{"b", "", "b"}, i, v)...)
			}
			checkWrong(t, want, append(cycle(4095, 1024), v)...)
			checkWrong(t, want, append([]string{v}, cycle(4095, 1024)...)...)
		}
	}
	for _, n := range []int{4097, 4098, 1 << 16} {
		checkWrong(t, api.ErrLimit, make([]string, n)...)
		checkWrong(t, api.ErrLimit, cycle(n, 1024)...)
	}
	for _, n := range []int{1025, 1026, 4096} {
		checkWrong(t, api.ErrLimit, numerals(n)...)
		checkWrong(t, api.ErrLimit, cycle(4096, n)...)
	}
}

func TestOrderOfBuildErrors(t *testing.T) {
	// That there are too many values comes first, that there are too many words last.
	checkWrong(t, api.ErrLimit, append(make([]string, 4096), "\xff")...)
	checkWrong(t, api.ErrLimit, append([]string{"\xff"}, make([]string, 4096)...)...)
	checkWrong(t, api.ErrEncoding, append(make([]string, 4095), "\xff")...)
	checkWrong(t, api.ErrEncoding, append(numerals(1025), "\xff")...)
	checkWrong(t, api.ErrEncoding, append(numerals(4095), "\xff")...)
	checkWrong(t, api.ErrEncoding, append([]string{"\xff"}, numerals(1025)...)...)
	// The first value with an error counts, and its length before its encoding.
	checkWrong(t, api.ErrEncoding, "a", "\xff", long(121))
	checkWrong(t, api.ErrLimit, "a", long(121), "\xff")
	checkWrong(t, api.ErrLimit, strings.Repeat("\xff", 121), "\xff")
	checkWrong(t, api.ErrEncoding, strings.Repeat("\xff", 120), long(121))
}

func TestBuildCopiesTheList(t *testing.T) {
	values := append(make([]string, 0, 8), "b", "a", "ab", "a")
	held := slices.Clone(values[:8])
	x, numbers := built(t, values...)
	if !slices.Equal(values[:8], held) {
		t.Fatalf("the argument is %q now", values[:8])
	}
	code := x.Encode()
	for i := range values[:8] {
		values[:8][i] = "z"
	}
	for i := range numbers {
		numbers[i] = 9
	}
	checkState(t, x, []string{"b", "a", "ab", "a"}, []string{"", "a", "b", "z"})
	if !bytes.Equal(x.Encode(), code) {
		t.Error("the lexicon has changed with the list")
	}
}

// P13.2

func TestWords(t *testing.T) {
	x, _ := built(t, "b", "a", "ab", "a", "é", "b", "a")
	for n, want := range []entry{{"a", 3}, {"ab", 1}, {"b", 2}, {"é", 1}} {
		if w, ok := x.Word(n); w != want.word || !ok || x.Count(n) != want.count {
			t.Errorf("word %d is %q, %t, with the count %d; expected %v", n, w, ok, x.Count(n), want)
		}
		if number, ok := x.Number(want.word); number != n || !ok {
			t.Errorf("Number(%q) = %d, %t", want.word, number, ok)
		}
	}
	none, _ := built(t)
	for _, n := range []int{-1, -2, -4, 4, 5, 7, 1024, 1 << 32, math.MaxInt, math.MinInt} {
		for _, y := range []*lexicon.Lexicon{x, none} {
			if w, ok := y.Word(n); w != "" || ok || y.Count(n) != 0 {
				t.Errorf("word %d of %d is %q, %t, with the count %d", n, y.Size(), w, ok, y.Count(n))
			}
		}
	}
	if w, ok := none.Word(0); w != "" || ok || none.Count(0) != 0 {
		t.Errorf("a lexicon without words has the word %q", w)
	}
	for _, w := range []string{"", "A", "aa", "abc", "b ", "c", "~", "\xc3", "\xc3\xaa", "\xff", "a\x00", long(121), strings.Repeat("\xff", 1<<16)} {
		for _, y := range []*lexicon.Lexicon{x, none} {
			if n, ok := y.Number(w); n != 0 || ok {
				t.Errorf("Number(%.20q) of %d words = %d, %t", w, y.Size(), n, ok)
			}
		}
	}
}

func TestTheEmptyWord(t *testing.T) {
	x, numbers := built(t, "", "a", "")
	if n, ok := x.Number(""); n != 0 || !ok || x.Count(0) != 2 || !slices.Equal(numbers, []int{0, 1, 0}) {
		t.Errorf("the number of the empty word is %d, %t", n, ok)
	}
	if w, ok := x.Word(0); w != "" || !ok {
		t.Errorf("word 0 is %q, %t", w, ok)
	}
}

func TestLexiconsOfAllShortLists(t *testing.T) {
	probes := append(texts(2, "a", "b", "\xc3", "\xa9"), "abb", "c", "\xff")
	for _, values := range lists(4, "", "a", "b", "ab", "ba", "é") {
		checkLexicon(t, values, probes)
	}
	words := texts(2, "a", "b", "é")
	for _, values := range lists(2, words...) {
		checkLexicon(t, values, probes)
	}
	checkLexicon(t, words, append(probes, words...))
}

func TestLexiconsOfScatteredLists(t *testing.T) {
	next := dice(131)
	for range 300 {
		length := 1 + next(5)
		pieces := []string{"a", "b", "é", "è", "€", "😀", "\x00", "Z"}[:2+next(7)]
		values := scatter(next, next(60), length, pieces...)
		checkLexicon(t, values, append(scatter(next, 10, length, append(pieces, "\xc3", "\xa9", "\x82\xac")...), ""))
	}
}

func TestLexiconsOfFullLists(t *testing.T) {
	next := dice(132)
	for _, values := range [][]string{numerals(1024), cycle(1500, 1024), scatter(next, 1200, 5, "a", "b", "é")} {
		checkLexicon(t, values, []string{"", "1", "10", "9", "99", "a", "é", "\xc3", "\xa9", "ab", "ba"})
	}
}
