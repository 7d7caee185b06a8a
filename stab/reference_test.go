package stab_test

import (
	"bytes"
	"slices"
	"testing"

	"corpora/api"
	"corpora/checksum"
	"corpora/stab"
)

// The reference goes through all spans of a list and compares the lists of their tokens.
// It writes the bytes of numbers on its own, and it reads nothing: the bytes that can be
// decoded are those that it writes.

// tokens returns the tokens of a span that is valid, and none for another one.
func tokens(s span) []int {
	var list []int
	for i := s.Begin; i < s.End && s.Begin >= 0; i++ {
		list = append(list, i)
	}
	return list
}

// share returns the tokens that two spans share.
func share(a, b span) []int {
	return slices.DeleteFunc(tokens(a), func(i int) bool { return !slices.Contains(tokens(b), i) })
}

// numbers returns the numbers of the spans of a list that fit.
func numbers(l []span, fits func(span) bool) []int {
	var list []int
	for i, s := range l {
		if fits(s) {
			list = append(list, i)
		}
	}
	return list
}

func stabbed(l []span, pos int) []int {
	return numbers(l, func(o span) bool { return slices.Contains(tokens(o), pos) })
}

// found returns what the methods find in a list by their names.
func found(l []span, s span) map[string][]int {
	size := len(tokens(s))
	if size == 0 {
		return nil
	}
	return map[string][]int{
		"Overlap": numbers(l, func(o span) bool { return len(share(o, s)) > 0 }),
		"Inside":  numbers(l, func(o span) bool { return len(share(o, s)) == len(tokens(o)) }),
		"Around":  numbers(l, func(o span) bool { return len(share(o, s)) == size }),
	}
}

// putNumber returns b followed by groups of seven bits.
func putNumber(b []byte, v int) []byte {
	for ; v > 127; v /= 128 {
		b = append(b, byte(v%128+128))
	}
	return append(b, byte(v))
}

// payload returns what is sealed of the encoding of a list.
func payload(l []span) []byte {
	b := putNumber(nil, len(l))
	for _, s := range l {
		b = putNumber(putNumber(b, s.Begin), s.End-s.Begin-1)
	}
	return b
}

// checkQueries compares what is found in an index of a list with the reference.
func checkQueries(t *testing.T, x *stab.Index, l []span, queries []span) {
	t.Helper()
	for _, s := range queries {
		want := found(l, s)
		for name, find := range finders(x) {
			if got := find(s); !slices.Equal(got, want[name]) {
				t.Fatalf("%s(%v) of %v = %v; expected %v", name, s, l, got, want[name])
			}
		}
		if got, want := x.Stab(s.Begin), stabbed(l, s.Begin); !slices.Equal(got, want) {
			t.Fatalf("Stab(%d) of %v = %v; expected %v", s.Begin, l, got, want)
		}
	}
}

// checkIndex compares all methods of the index of a list with the reference, also after
// the index has been encoded and decoded.
func checkIndex(t *testing.T, l []span, queries []span) {
	t.Helper()
	before := slices.Clone(l)
	x := built(t, l)
	want := checksum.Seal(payload(l))
	y, e := stab.Decode(want)
	if y == nil || e != api.OK {
		t.Fatalf("the encoding of %v is not decoded: %d", l, e)
	}
	for i, index := range []*stab.Index{x, y} {
		if index.Len() != len(l) {
			t.Fatalf("%d: there are %d spans of %v", i, index.Len(), l)
		}
		checkQueries(t, index, l, queries)
		if got := index.Encode(); !bytes.Equal(got, want) {
			t.Fatalf("%d: Encode of %v = %v; expected %v", i, l, got, want)
		}
	}
	if !slices.Equal(l, before) {
		t.Fatalf("the argument has changed from %v to %v", before, l)
	}
}
