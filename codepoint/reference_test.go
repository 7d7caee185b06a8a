package codepoint_test

import (
	"cmp"
	"slices"
	"strings"
	"testing"
	"unicode/utf8"

	"corpora/codepoint"
)

// referenceUnit is a unit as the tests find it, without a range over the string.
type referenceUnit struct {
	r        rune
	at, size int
}

func reference(s string) []referenceUnit {
	var found []referenceUnit
	for at := 0; at < len(s); {
		r, size := utf8.DecodeRuneInString(s[at:])
		found = append(found, referenceUnit{r, at, size})
		at += size
	}
	return found
}

func referenceCompare(a, b string) int {
	return cmp.Or(slices.Compare([]rune(a), []rune(b)), strings.Compare(a, b))
}

// samples returns all strings of at most n of some pieces, which are valid and invalid units and parts of units.
func samples(n int) []string {
	pieces := []string{
		"a", "Z", "\n", "\x00", "é", "Ö", "Ж", "€", "😀", "\uFFFD", "×",
		"\xff", "\xfe", "\xc3", "\x96", "\xe2\x82", "\xac", "\xed\xa0\x80", "\xf0\x9f",
	}
	all, last := []string{""}, []string{""}
	for range n {
		var next []string
		for _, s := range last {
			for _, piece := range pieces {
				next = append(next, s+piece)
			}
		}
		all, last = append(all, next...), next
	}
	return all
}

func FuzzUnits(f *testing.F) {
	f.Add("aé", "a\xff\xfe", 4)
	f.Add("a\né!", "\xed\xa0\x80", -1)
	f.Fuzz(func(t *testing.T, a, b string, at int) {
		units := reference(a)
		if got := codepoint.Count(a); got != len(units) {
			t.Errorf("Count(%q) = %d; expected %d", a, got, len(units))
		}
		if got, want := codepoint.Compare(a, b), referenceCompare(a, b); got != want {
			t.Errorf("Compare(%q, %q) = %d; expected %d", a, b, got, want)
		}
		if pos := codepoint.Position(a, at); pos.Line < 1 || pos.Column < 1 {
			t.Errorf("Position(%q, %d) = %v", a, at, pos)
		}
		if folded := codepoint.Fold(a); codepoint.Fold(folded) != folded {
			t.Errorf("Fold(Fold(%q)) is not %q", a, folded)
		}
		if back := codepoint.Reverse(codepoint.Reverse(a)); utf8.ValidString(a) && back != a {
			t.Errorf("Reverse(Reverse(%q)) = %q", a, back)
		}
	})
}
