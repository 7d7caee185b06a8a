package stab_test

import (
	"math"
	"slices"
	"testing"

	"corpora/api"
	"corpora/stab"
)

// P12.1

func TestBuild(t *testing.T) {
	for i, l := range [][]span{
		nil, {}, spans(0, 1), spans(0, 5, 2, 3, 2, 8), spans(2, 8, 2, 3, 0, 5), spans(3, 4, 3, 4, 3, 4), spans(5, 6, 0, 1, 5, 6, 0, 9),
		spans(0, most), spans(most-1, most), spans(most-1, most, 0, 1, 0, most),
		each(4096, single), fullOf(at(0, most)), fullOf(at(3, 5)), each(4096, func(i int) span { return at(4095-i, 9000) }),
	} {
		if x := built(t, l); x.Len() != len(l) {
			t.Errorf("%d: there are %d spans of %d", i, x.Len(), len(l))
		}
	}
}

// fullOf returns a list that is full of one span.
func fullOf(s span) []span { return slices.Repeat([]span{s}, 4096) }

// The numbers of spans are their indices in the list, whatever their order is.
func TestNumbersOfSpans(t *testing.T) {
	l := spans(4, 6, 0, 9, 4, 6, 5, 6, 0, 1)
	for i := range l {
		l = append(l[1:], l[0])
		x := built(t, l)
		for number, s := range l {
			if got := x.Around(s); !slices.Contains(got, number) {
				t.Errorf("%d: %v is not found in %v as %d, but %v", i, s, l, number, got)
			}
		}
		checkIndex(t, l, between(0, 10))
	}
}

// invalid returns spans that no index contains.
func invalid() []span {
	return spans(0, 0, 5, 5, 3, 2, 1, 0, -1, 1, -1, 0, -2, -1, -1, -1, 0, -1, 0, math.MinInt, math.MinInt, 1, math.MinInt, math.MaxInt, math.MaxInt, math.MinInt, math.MaxInt, math.MaxInt,
		0, most+1, 1, most+1, most-1, most+1, most, most+1, most, most, most+1, most+2, 0, most+2, 0, 1<<32, 0, 1<<32+1, 1<<32, 1<<32+1, 0, math.MaxInt, math.MaxInt-1, math.MaxInt)
}

func TestBuildErrors(t *testing.T) {
	checkWrong := func(want api.Errno, l []span) {
		t.Helper()
		if x, e := stab.Build(l); x != nil || e != want {
			t.Errorf("Build of %d spans, %v.. to %v: %v, %d; expected %d", len(l), l[:min(len(l), 8)], l[len(l)-1], x, e, want)
		}
	}
	for _, s := range invalid() {
		checkWrong(api.ErrRange, []span{s})
		checkWrong(api.ErrRange, []span{s, s})
		for i := range 5 {
			checkWrong(api.ErrRange, slices.Insert(spans(2, 8, 0, most, 2, 8, 1, 3), i, s))
		}
		full := each(4096, single)
		full[4095] = s
		checkWrong(api.ErrRange, full)
		checkWrong(api.ErrRange, fullOf(s))
		// That there are too many spans comes first.
		checkWrong(api.ErrLimit, append(full, at(0, 1)))
		checkWrong(api.ErrLimit, append([]span{s}, fullOf(at(0, 1))...))
	}
	for _, n := range []int{4097, 4098, 8192, 1 << 17} {
		checkWrong(api.ErrLimit, each(n, single))
		checkWrong(api.ErrLimit, make([]span, n))
	}
}

func TestBuildCopiesTheList(t *testing.T) {
	l := append(make([]span, 0, 8), spans(0, 5, 2, 3, 2, 8)...)
	held := slices.Clone(l[:8])
	x := built(t, l)
	code := x.Encode()
	if !slices.Equal(l[:8], held) {
		t.Fatalf("the argument is %v now", l[:8])
	}
	for i := range l[:8] {
		l[:8][i] = at(40, 41)
	}
	checkQueries(t, x, spans(0, 5, 2, 3, 2, 8), between(-1, 9))
	if got := x.Encode(); !slices.Equal(got, code) || x.Len() != 3 {
		t.Errorf("the index has changed with the list: %v", got)
	}
}

func TestIndexesAreIndependent(t *testing.T) {
	l := spans(0, 5, 2, 3, 2, 8)
	x, y, z := built(t, l), built(t, l), built(t, l[1:2])
	checkQueries(t, y, l, between(0, 9))
	checkQueries(t, z, l[1:2], between(0, 9))
	checkQueries(t, x, l, between(0, 9))
}
