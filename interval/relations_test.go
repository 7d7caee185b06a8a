package interval_test

import (
	"math"
	"slices"
	"testing"

	"corpora/api"
	"corpora/interval"
)

// P11.3

func TestRelation(t *testing.T) {
	for _, c := range []struct {
		a, b span
		want int
	}{
		{at(0, 1), at(2, 3), 1}, {at(0, 2), at(2, 3), 2}, {at(0, 3), at(2, 4), 3}, {at(0, 4), at(2, 4), 4}, {at(0, 5), at(2, 4), 5}, {at(2, 3), at(2, 4), 6},
		{at(2, 4), at(2, 4), 7}, {at(0, 1), at(0, 1), 7},
		{at(2, 4), at(2, 3), 8}, {at(2, 4), at(0, 5), 9}, {at(2, 4), at(0, 4), 10}, {at(2, 4), at(0, 3), 11}, {at(2, 3), at(0, 2), 12}, {at(2, 3), at(0, 1), 13},
		{at(0, 1), at(math.MaxInt-1, math.MaxInt), 1}, {at(0, math.MaxInt-1), at(math.MaxInt-1, math.MaxInt), 2}, {at(0, math.MaxInt), at(math.MaxInt-1, math.MaxInt), 4}, {at(0, math.MaxInt), at(0, math.MaxInt), 7}, {at(1, 2), at(0, math.MaxInt), 9},
		// One of them is not valid.
		{span{}, span{}, 0}, {at(0, 0), at(0, 1), 0}, {at(0, 1), at(1, 1), 0}, {at(0, 1), at(-1, 1), 0}, {at(-1, 0), at(0, 1), 0}, {at(-1, 2), at(-1, 2), 0}, {at(3, 2), at(0, 1), 0}, {at(0, 1), at(3, 2), 0}, {at(0, 9), at(5, 3), 0},
		{at(math.MinInt, 1), at(0, 1), 0}, {at(math.MaxInt, math.MinInt), at(0, 1), 0}, {at(0, 1), at(math.MinInt, math.MaxInt), 0}, {at(math.MaxInt, math.MaxInt), at(math.MaxInt, math.MaxInt), 0},
	} {
		if got := interval.Relation(c.a, c.b); got != c.want {
			t.Errorf("Relation(%v, %v) = %d; expected %d", c.a, c.b, got, c.want)
		}
		checkRelation(t, c.a, c.b)
	}
}

func TestRelationOfAllSpans(t *testing.T) {
	numbers := map[int]int{}
	for _, a := range between(-2, 6) {
		for _, b := range between(-2, 6) {
			checkRelation(t, a, b)
			numbers[interval.Relation(a, b)]++
		}
	}
	if len(numbers) != 14 {
		t.Errorf("there are %d numbers: %v", len(numbers), numbers)
	}
	for _, pair := range lists(2, spansTo(8)...) {
		if len(pair) == 2 {
			far := stretch(pair)
			checkRelation(t, far[0], far[1])
			checkRelation(t, pair[0], far[1])
		}
	}
}

// P11.4

// choice is what is chosen of a list by another one.
type choice struct{ a, b, within, containing, overlapping []span }

func checkChoice(t *testing.T, c choice) {
	t.Helper()
	want := map[string][]span{"Within": c.within, "Containing": c.containing, "Overlapping": c.overlapping}
	for name, f := range binaries() {
		if got, e := f(c.a, c.b); !slices.Equal(got, want[name]) || e != api.OK {
			t.Errorf("%s(%v, %v) = %v, %d; expected %v", name, c.a, c.b, got, e, want[name])
		}
	}
}

func TestChoices(t *testing.T) {
	const most = math.MaxInt
	one := spans(2, 4)
	for _, c := range []choice{
		{nil, nil, nil, nil, nil}, {nil, one, nil, nil, nil}, {one, nil, nil, nil, nil}, {[]span{}, []span{}, nil, nil, nil},
		{spans(0, 2, 1, 3), spans(0, 2), spans(0, 2), spans(0, 2), spans(0, 2, 1, 3)},
		// The relations 1 to 13 of one span to another.
		{one, spans(5, 6), nil, nil, nil}, {one, spans(4, 5), nil, nil, nil}, {one, spans(3, 5), nil, nil, one}, {one, spans(3, 4), nil, one, one}, {spans(2, 5), spans(3, 4), nil, spans(2, 5), spans(2, 5)}, {one, spans(2, 5), one, nil, one},
		{one, one, one, one, one},
		{one, spans(2, 3), nil, one, one}, {one, spans(1, 5), one, nil, one}, {one, spans(1, 4), one, nil, one}, {one, spans(1, 3), nil, nil, one}, {one, spans(1, 2), nil, nil, nil}, {one, spans(0, 1), nil, nil, nil},
		// Two spans that together contain a third one do not contain it; what they touch, they do not overlap.
		{one, spans(0, 3, 3, 5), nil, nil, one}, {one, spans(0, 2, 4, 6), nil, nil, nil},
		// The span that decides is neither the first nor the last of those that begin, or end, in time.
		{spans(4, 6), spans(0, 1, 1, 9, 2, 3, 3, 5), spans(4, 6), nil, spans(4, 6)}, {spans(3, 6), spans(0, 2, 4, 5, 1, 6, 0, 9), spans(3, 6), spans(3, 6), spans(3, 6)}, {spans(6, 7), spans(0, 9, 1, 2, 3, 4, 7, 8), spans(6, 7), nil, spans(6, 7)},
		// Any order, and duplicates.
		{spans(5, 6, 2, 4, 2, 7, 5, 6, 2, 4), spans(5, 7, 2, 4, 5, 7, 0, 1), spans(2, 4, 5, 6), spans(2, 7, 2, 4), spans(2, 7, 2, 4, 5, 6)},
		// The greatest numbers.
		{spans(0, most), spans(most-1, most), nil, spans(0, most), spans(0, most)}, {spans(most-1, most), spans(0, most), spans(most-1, most), nil, spans(most-1, most)}, {spans(0, most), nil, nil, nil, nil}, {spans(most-1, most), spans(0, most-1), nil, nil, nil}, {spans(1, most), spans(0, 1), nil, nil, nil}, {spans(0, 1), spans(0, 1), spans(0, 1), spans(0, 1), spans(0, 1)},
	} {
		checkChoice(t, c)
	}
}

func TestChoicesOfAllShortLists(t *testing.T) {
	short := lists(2, spansTo(4)...)
	for _, a := range short {
		for _, b := range short {
			checkTwo(t, a, b)
		}
	}
	single := lists(1, between(-1, 6)...)
	for _, a := range single {
		for _, b := range single {
			checkTwo(t, a, b)
		}
	}
}

func TestChoicesOfScatteredLists(t *testing.T) {
	next := dice(113)
	chosen := map[string]int{}
	for range 2000 {
		end := 1 + next(50)
		a, b := scatter(next, next(12), end, 1+next(8)), scatter(next, next(12), end, 1+next(8))
		checkTwo(t, a, b)
		for name, f := range binaries() {
			got, _ := f(a, b)
			all, _ := interval.Normalize(a)
			if len(got) > 0 && len(got) < len(all) {
				chosen[name]++
			}
		}
	}
	for name := range binaries() {
		if chosen[name] < 300 {
			t.Errorf("%s chose some and not all only %d times", name, chosen[name])
		}
	}
}

func TestChoicesOfStretchedLists(t *testing.T) {
	next := dice(114)
	for range 5000 {
		a, b := scatter(next, next(5), 8, 4), scatter(next, next(5), 8, 4)
		for name, f := range binaries() {
			want, _ := f(a, b)
			if got, e := f(stretch(a), stretch(b)); !slices.Equal(got, stretch(want)) || e != api.OK {
				t.Fatalf("%s(%v, %v) = %v, %d; expected %v", name, stretch(a), stretch(b), got, e, stretch(want))
			}
		}
	}
}

func TestChoicesOfFullLists(t *testing.T) {
	next := dice(115)
	a, b := scatter(next, 4096, 9000, 12), scatter(next, 4096, 9000, 6)
	b = slices.DeleteFunc(b, func(s span) bool { return s.End-s.Begin > 6 || s.Begin%100 < 30 })
	b = append(b, b[:4096-len(b)]...)
	want := map[string][]span{}
	all, _ := interval.Normalize(a)
	for _, s := range all {
		for name, related := range map[string]func(span) bool{
			"Within":      func(o span) bool { return o.Begin <= s.Begin && s.End <= o.End },
			"Containing":  func(o span) bool { return s.Begin <= o.Begin && o.End <= s.End },
			"Overlapping": func(o span) bool { return o.Begin < s.End && s.Begin < o.End },
		} {
			if some(b, related) {
				want[name] = append(want[name], s)
			}
		}
	}
	for name, f := range binaries() {
		if got, e := f(a, b); !slices.Equal(got, want[name]) || e != api.OK || len(got) < 100 || len(got) > len(all)-100 {
			t.Errorf("%s returns %d spans of %d, %d; expected %d", name, len(got), len(all), e, len(want[name]))
		}
	}
}

func FuzzInterval(f *testing.F) {
	f.Add([]byte{3, 5, 1, 3, 1, 6, 3, 5}, []byte{1, 4, 2, 3})
	f.Add([]byte{1, 2, 4, 4}, []byte{0, 3})
	f.Fuzz(func(t *testing.T, first, second []byte) {
		read := func(b []byte) []span {
			b = b[:min(len(b), 24)]
			return each(len(b)/2, func(i int) span { return at(int(b[2*i])-1, int(b[2*i+1])-1) })
		}
		a, b := read(first), read(second)
		checkOne(t, a)
		checkTwo(t, a, b)
		for _, s := range a {
			for _, o := range b {
				checkRelation(t, s, o)
			}
		}
	})
}
