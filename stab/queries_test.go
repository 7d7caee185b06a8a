package stab_test

import (
	"math"
	"slices"
	"testing"
)

// P12.2

// query is a span with what is found by it.
type query struct {
	s                       span
	overlap, inside, around []int
}

func checkQuery(t *testing.T, l []span, queries ...query) {
	t.Helper()
	x := built(t, l)
	for _, q := range queries {
		want := map[string][]int{"Overlap": q.overlap, "Inside": q.inside, "Around": q.around}
		for name, find := range finders(x) {
			if got := find(q.s); !slices.Equal(got, want[name]) {
				t.Errorf("%s(%v) of %v = %v; expected %v", name, q.s, l, got, want[name])
			}
		}
	}
}

func list(numbers ...int) []int { return numbers }

func TestQueries(t *testing.T) {
	one := list(0)
	checkQuery(t, spans(0, 5, 2, 3, 2, 8),
		query{at(5, 6), list(2), nil, list(2)}, query{at(0, 5), list(0, 1, 2), list(0, 1), one}, query{at(3, 5), list(0, 2), nil, list(0, 2)},
		query{at(0, 9), list(0, 1, 2), list(0, 1, 2), nil}, query{at(2, 3), list(0, 1, 2), list(1), list(0, 1, 2)}, query{at(2, 8), list(0, 1, 2), list(1, 2), list(2)}, query{at(0, 2), one, nil, one}, query{at(8, 9), nil, nil, nil}, query{at(7, 9), list(2), nil, nil},
	)
	// The relations 1 to 13 of the span of an index to another one.
	checkQuery(t, spans(2, 4),
		query{at(5, 6), nil, nil, nil}, query{at(4, 5), nil, nil, nil}, query{at(3, 5), one, nil, nil}, query{at(3, 4), one, nil, one}, query{at(2, 5), one, one, nil}, query{at(2, 4), one, one, one}, query{at(2, 3), one, nil, one},
		query{at(1, 5), one, one, nil}, query{at(1, 4), one, one, nil}, query{at(1, 3), one, nil, nil}, query{at(1, 2), nil, nil, nil}, query{at(0, 1), nil, nil, nil},
	)
	checkQuery(t, spans(2, 5), query{at(3, 4), one, nil, one})
	checkQuery(t, nil, query{at(0, 1), nil, nil, nil}, query{at(0, math.MaxInt), nil, nil, nil})
	// Numbers are in order where the spans are not, and duplicates have a number each.
	checkQuery(t, spans(6, 9, 4, 7, 6, 7, 2, 8, 6, 9, 0, 3), query{at(6, 7), list(0, 1, 2, 3, 4), list(2), list(0, 1, 2, 3, 4)}, query{at(6, 9), list(0, 1, 2, 3, 4), list(0, 2, 4), list(0, 4)}, query{at(2, 3), list(3, 5), nil, list(3, 5)}, query{at(0, 8), list(0, 1, 2, 3, 4, 5), list(1, 2, 3, 5), nil})
	// A long span stands among short ones, in each place.
	for i := range 9 {
		l := each(9, func(k int) span { return at(10*k, 10*k+1) })
		l[i].End = 100
		checkQuery(t, l, query{at(95, 96), list(i), nil, list(i)}, query{at(99, 101), list(i), nil, nil}, query{at(100, 101), nil, nil, nil}, query{at(10*i, 100), numbers(l, func(s span) bool { return s.Begin >= 10*i }), numbers(l, func(s span) bool { return s.Begin >= 10*i }), list(i)})
	}
}

func TestQueriesOfTheGreatestNumbers(t *testing.T) {
	both := list(0, 1)
	checkQuery(t, spans(0, most, most-1, most),
		query{at(0, most), both, both, list(0)}, query{at(most-1, most), both, list(1), both}, query{at(most-2, most), both, list(1), list(0)}, query{at(most-1, most+1), both, list(1), nil}, query{at(most, most+1), nil, nil, nil}, query{at(0, 1), list(0), nil, list(0)},
		query{at(0, math.MaxInt), both, both, nil}, query{at(1, math.MaxInt), both, list(1), nil}, query{at(most-1, math.MaxInt), both, list(1), nil}, query{at(most, math.MaxInt), nil, nil, nil}, query{at(math.MaxInt-1, math.MaxInt), nil, nil, nil},
	)
	x := built(t, spans(0, most, most-1, most, 0, 1))
	for pos, want := range map[int][]int{0: list(0, 2), 1: list(0), most - 2: list(0), most - 1: both, most: nil, most + 1: nil, 1 << 32: nil, math.MaxInt - 1: nil, math.MaxInt: nil, -1: nil, -2: nil, -1 << 32: nil, math.MinInt: nil, math.MinInt + 1: nil} {
		if got := x.Stab(pos); !slices.Equal(got, want) {
			t.Errorf("Stab(%d) = %v; expected %v", pos, got, want)
		}
	}
}

func TestStab(t *testing.T) {
	x := built(t, spans(0, 5, 2, 3, 2, 8))
	for pos, want := range [][]int{{0}, {0}, {0, 1, 2}, {0, 2}, {0, 2}, {2}, {2}, {2}, nil, nil} {
		if got := x.Stab(pos); !slices.Equal(got, want) {
			t.Errorf("Stab(%d) = %v; expected %v", pos, got, want)
		}
	}
	if got := built(t, nil).Stab(0); len(got) != 0 {
		t.Errorf("Stab(0) of no spans = %v", got)
	}
}

func TestQueriesByInvalidSpans(t *testing.T) {
	x := built(t, slices.Concat(spans(0, most, 0, 1, 0, 9, 3, 5, 4, 5), fullOf(at(2, 7))[:4091]))
	for _, s := range spans(0, 0, 1, 1, 4, 4, 5, 5, 5, 3, 4, 3, 1, 0, 9, 0, -1, 1, -1, 0, -1, 5, -1, most, -2, -1, -1, -1, 0, -1, 3, -1, most, most, most, 0, math.MinInt, 1, math.MinInt, math.MaxInt, math.MinInt, math.MinInt, 0, math.MinInt, 3, math.MinInt, math.MaxInt, math.MinInt, math.MaxInt, math.MaxInt, math.MaxInt, 0) {
		for name, find := range finders(x) {
			if got := find(s); got != nil {
				t.Errorf("%s(%v) returns %d numbers", name, s, len(got))
			}
		}
	}
}

func TestQueriesOfAllShortLists(t *testing.T) {
	for _, l := range lists(2, spansTo(5)...) {
		checkIndex(t, l, between(-1, 6))
	}
	for _, l := range lists(3, spansTo(3)...) {
		checkIndex(t, l, between(-1, 4))
	}
	for _, l := range lists(5, spansTo(2)...) {
		checkIndex(t, l, between(0, 3))
	}
}

func TestQueriesOfScatteredLists(t *testing.T) {
	next := dice(121)
	met := map[string]int{}
	for range 1500 {
		end := 1 + next(60)
		l := scatter(next, next(40), end, 1+next(8))
		queries := append(scatter(next, 6, end+2, 1+next(12)), at(next(end)-1, next(end)))
		checkIndex(t, l, queries)
		for name, find := range finders(built(t, l)) {
			if got := find(queries[0]); len(got) > 1 && len(got) < len(l) {
				met[name]++
			}
		}
	}
	for name := range finders(built(t, nil)) {
		if met[name] < 100 {
			t.Errorf("%s found several and not all spans only %d times", name, met[name])
		}
	}
}

// Only the order of the numbers counts, so that far numbers give what near ones give.
func TestQueriesOfStretchedLists(t *testing.T) {
	next := dice(122)
	for range 3000 {
		l := scatter(next, next(7), 8, 4)
		far := built(t, stretch(l))
		for _, s := range scatter(next, 3, 8, 4) {
			want := found(l, s)
			for name, find := range finders(far) {
				if got := find(stretch([]span{s})[0]); !slices.Equal(got, want[name]) {
					t.Fatalf("%s(%v) of %v, all stretched: %v; expected %v", name, s, l, got, want[name])
				}
			}
		}
	}
}

func TestQueriesOfFullLists(t *testing.T) {
	next := dice(123)
	for i, l := range [][]span{
		each(4096, single), each(4096, func(i int) span { return at(4095-i, 4096-i) }), each(4096, func(i int) span { return at(i, 9000-i) }), each(4096, func(i int) span { return at(0, i+1) }), each(4096, func(i int) span { return at(i, 4096) }), fullOf(at(3, 5)),
		scatter(next, 4096, 9000, 20), scatter(next, 4096, 300, 300),
	} {
		x := built(t, l)
		for _, s := range append(scatter(next, 40, 9000, 400), at(0, 1), at(3, 5), at(4095, 4096), at(0, 9000), at(4096, 4097), at(4, 2000)) {
			want := map[string][]int{
				"Overlap": numbers(l, func(o span) bool { return o.Begin < s.End && s.Begin < o.End }),
				"Inside":  numbers(l, func(o span) bool { return s.Begin <= o.Begin && o.End <= s.End }),
				"Around":  numbers(l, func(o span) bool { return o.Begin <= s.Begin && s.End <= o.End }),
			}
			for name, find := range finders(x) {
				if got := find(s); !slices.Equal(got, want[name]) {
					t.Errorf("%d: %s(%v) returns %d numbers; expected %d", i, name, s, len(got), len(want[name]))
				}
			}
			if got, want := x.Stab(s.Begin), numbers(l, func(o span) bool { return o.Begin <= s.Begin && s.Begin < o.End }); !slices.Equal(got, want) {
				t.Errorf("%d: Stab(%d) returns %d numbers; expected %d", i, s.Begin, len(got), len(want))
			}
		}
	}
}

func TestQueriesReturnNewMemory(t *testing.T) {
	x := built(t, spans(0, 5, 2, 3, 2, 8, 1, 9, 2, 3))
	calls := finders(x)
	calls["Stab"] = func(s span) []int { return x.Stab(s.Begin) }
	code := x.Encode()
	for name, find := range calls {
		first, second := find(at(2, 3)), find(at(2, 3))
		want := slices.Clone(second)
		if len(want) == 0 {
			t.Fatalf("%s finds nothing", name)
		}
		first = first[:cap(first)]
		for i := range first {
			first[i] = -9
		}
		if !slices.Equal(second, want) || !slices.Equal(find(at(2, 3)), want) {
			t.Errorf("results of %s share memory: %v", name, second)
		}
	}
	if !slices.Equal(x.Encode(), code) {
		t.Error("the index has changed")
	}
}
