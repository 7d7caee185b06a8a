package interval_test

import (
	"math"
	"slices"
	"testing"

	"corpora/api"
	"corpora/interval"
)

// P11.1

// wrong returns lists with the error of each.
func wrong() map[api.Errno][][]span {
	full := each(4096, single)
	full[4095] = at(7, 7)
	m := map[api.Errno][][]span{
		api.ErrLimit: {each(4097, single), make([]span, 4097), append(full, at(0, 1)), slices.Repeat(spans(0, 1), 1<<17)},
		api.ErrRange: {full, make([]span, 4096)},
	}
	for _, s := range spans(0, 0, 5, 5, 3, 2, 1, 0, -1, 1, -1, 0, -2, -1, -1, -1, math.MinInt, 1, math.MinInt, math.MaxInt, math.MaxInt, math.MaxInt, math.MaxInt, math.MinInt, 0, math.MinInt) {
		one, two := spans(0, 1), spans(0, 9, 0, 9)
		m[api.ErrRange] = append(m[api.ErrRange], []span{s}, append(one, s), append([]span{s}, one...), slices.Concat(two, []span{s, s}, two))
	}
	return m
}

func TestErrorsOfOneList(t *testing.T) {
	for want, all := range wrong() {
		for i, l := range all {
			for name, f := range unaries() {
				if got, e := f(l); len(got) != 0 || e != want {
					t.Errorf("%s of the list %d with the error %d = %v, %d", name, i, want, got, e)
				}
			}
		}
	}
}

func TestErrorsOfTwoLists(t *testing.T) {
	right := [][]span{nil, {}, spans(0, 1), spans(2, 9, 0, 3, 2, 9), each(4096, single)}
	m := wrong()
	firstWrong := func(t *testing.T, f binary, want api.Errno, a, b []span) {
		t.Helper()
		if got, e := f(a, b); len(got) != 0 || e != want {
			t.Errorf("lists of %d and %d spans: %v, %d; expected %d", len(a), len(b), got, e, want)
		}
	}
	for name, f := range binaries() {
		t.Run(name, func(t *testing.T) {
			for want, all := range m {
				for _, l := range all {
					for _, other := range slices.Concat(right, m[api.ErrLimit][:2], m[api.ErrRange][:4]) {
						firstWrong(t, f, want, l, other)
					}
					for _, other := range right {
						firstWrong(t, f, want, other, l)
					}
				}
			}
		})
	}
}

func TestFullLists(t *testing.T) {
	full := each(4096, single)
	turned := slices.Clone(full)
	slices.Reverse(turned)
	same := slices.Repeat(spans(3, 5), 4096)
	nested := each(4096, func(i int) span { return at(i, 9000-i) })
	turnedNested := slices.Clone(nested)
	slices.Reverse(turnedNested)
	for i, c := range []struct{ l, normal, cover []span }{
		{full, full, spans(0, 4096)}, {turned, full, spans(0, 4096)}, {same, spans(3, 5), spans(3, 5)}, {nested, nested, spans(0, 9000)}, {turnedNested, nested, spans(0, 9000)},
		{each(4096, func(i int) span { return at(8190-2*i, 8191-2*i) }), each(4096, func(i int) span { return at(2*i, 2*i+1) }), each(4096, func(i int) span { return at(2*i, 2*i+1) })},
		{each(4096, func(i int) span { return at(0, i+1) }), each(4096, func(i int) span { return at(0, 4096-i) }), spans(0, 4096)},
	} {
		if got, e := interval.Normalize(c.l); !slices.Equal(got, c.normal) || e != api.OK {
			t.Errorf("%d: Normalize returns %d spans, %d", i, len(got), e)
		}
		if got, e := interval.Cover(c.l); !slices.Equal(got, c.cover) || e != api.OK {
			t.Errorf("%d: Cover returns %d spans, %d", i, len(got), e)
		}
		for name, f := range binaries() {
			if got, e := f(c.l, c.l); !slices.Equal(got, c.normal) || e != api.OK {
				t.Errorf("%d: %s returns %d spans, %d", i, name, len(got), e)
			}
		}
	}
}

func TestListsReturnNewMemory(t *testing.T) {
	room := func(l ...span) []span { return append(make([]span, 0, 8), l...) }
	a, b := room(at(2, 4), at(0, 1), at(0, 5), at(2, 4)), room(at(2, 4), at(0, 1), at(0, 5))
	held, other := slices.Clone(a[:8]), slices.Clone(b[:8])
	calls := map[string]func() []span{}
	for name, f := range unaries() {
		calls[name] = func() []span { l, _ := f(a); return l }
	}
	for name, f := range binaries() {
		calls[name] = func() []span { l, _ := f(a, b); return l }
		calls[name+" of one list"] = func() []span { l, _ := f(b, b); return l }
	}
	for name, call := range calls {
		first, second := call(), call()
		want := slices.Clone(second)
		first = first[:cap(first)]
		for i := range first {
			first[i] = at(9, 9)
		}
		if !slices.Equal(second, want) {
			t.Errorf("results of %s share memory: %v", name, second)
		}
		if !slices.Equal(a[:8], held) || !slices.Equal(b[:8], other) {
			t.Fatalf("after %s the arguments are %v and %v", name, a[:8], b[:8])
		}
	}
}

// P11.2

func TestNormalizeAndCover(t *testing.T) {
	for _, c := range []struct{ l, normal, cover []span }{
		{nil, nil, nil}, {[]span{}, nil, nil}, {spans(0, 1), spans(0, 1), spans(0, 1)},
		{spans(3, 4, 0, 2, 0, 5, 3, 4), spans(0, 5, 0, 2, 3, 4), spans(0, 5)},
		{spans(0, 2, 2, 3, 5, 6), spans(0, 2, 2, 3, 5, 6), spans(0, 3, 5, 6)},
		// Spans that touch are covered by one, whichever comes first.
		{spans(2, 3, 0, 2), spans(0, 2, 2, 3), spans(0, 3)}, {spans(4, 6, 2, 4, 0, 2, 7, 8), spans(0, 2, 2, 4, 4, 6, 7, 8), spans(0, 6, 7, 8)},
		// A long span reaches beyond those that begin in it and end before it does.
		{spans(0, 9, 1, 2, 8, 10), spans(0, 9, 1, 2, 8, 10), spans(0, 10)}, {spans(0, 9, 1, 2, 9, 10, 11, 12), spans(0, 9, 1, 2, 9, 10, 11, 12), spans(0, 10, 11, 12)},
		{spans(4, 5, 4, 6, 4, 7), spans(4, 7, 4, 6, 4, 5), spans(4, 7)},
		{spans(math.MaxInt-1, math.MaxInt, 0, 1, 0, math.MaxInt), spans(0, math.MaxInt, 0, 1, math.MaxInt-1, math.MaxInt), spans(0, math.MaxInt)},
		{spans(math.MaxInt-1, math.MaxInt, 0, 1, 0, math.MaxInt-2), spans(0, math.MaxInt-2, 0, 1, math.MaxInt-1, math.MaxInt), spans(0, math.MaxInt-2, math.MaxInt-1, math.MaxInt)},
	} {
		if got, e := interval.Normalize(c.l); !slices.Equal(got, c.normal) || e != api.OK {
			t.Errorf("Normalize(%v) = %v, %d; expected %v", c.l, got, e, c.normal)
		}
		if got, e := interval.Cover(c.l); !slices.Equal(got, c.cover) || e != api.OK {
			t.Errorf("Cover(%v) = %v, %d; expected %v", c.l, got, e, c.cover)
		}
	}
}

func TestAllShortLists(t *testing.T) {
	for _, l := range lists(2, between(-1, 4)...) {
		checkOne(t, l)
	}
	for _, l := range lists(4, spansTo(4)...) {
		checkOne(t, l)
	}
}

func TestScatteredLists(t *testing.T) {
	next := dice(111)
	for range 2000 {
		l := scatter(next, next(40), 1+next(60), 1+next(6))
		checkOne(t, l)
		if len(l) > 0 && next(4) == 0 {
			l[next(len(l))] = at(next(9)-1, next(9)-1)
			checkOne(t, l)
		}
	}
}

// Only the order of the numbers counts, so that far numbers give what near ones give.
func TestStretchedLists(t *testing.T) {
	next := dice(112)
	for range 5000 {
		l := scatter(next, next(6), 8, 3)
		far := stretch(l)
		for name, f := range unaries() {
			want, _ := f(l)
			if got, e := f(far); !slices.Equal(got, stretch(want)) || e != api.OK {
				t.Fatalf("%s(%v) = %v, %d; expected %v", name, far, got, e, stretch(want))
			}
		}
	}
}
