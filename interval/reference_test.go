package interval_test

import (
	"slices"
	"testing"

	"corpora/api"
	"corpora/interval"
)

// The reference lists the tokens of spans and compares these lists. It finds normal
// lists by going through all spans in the order of such lists.

// tokens returns the tokens of a span.
func tokens(s span) []int {
	var list []int
	for i := s.Begin; i < s.End; i++ {
		list = append(list, i)
	}
	return list
}

func failure(lists ...[]span) api.Errno {
	for _, l := range lists {
		if len(l) > 4096 {
			return api.ErrLimit
		}
		if slices.ContainsFunc(l, func(s span) bool { return s.Begin < 0 || s.End <= s.Begin }) {
			return api.ErrRange
		}
	}
	return api.OK
}

// normal returns the normal list of the spans that are in a list and fit.
func normal(l []span, fits func(span) bool) []span {
	end := 0
	for _, s := range l {
		end = max(end, s.End)
	}
	given := map[span]bool{}
	for _, s := range l {
		given[s] = true
	}
	var list []span
	for begin := range end {
		for last := end; last > begin; last-- {
			if s := (at(begin, last)); given[s] && fits(s) {
				list = append(list, s)
			}
		}
	}
	return list
}

func all(span) bool { return true }

// contains reports whether every token of the other span is in one.
func contains(one, other span) bool {
	for _, i := range tokens(other) {
		if !slices.Contains(tokens(one), i) {
			return false
		}
	}
	return true
}

// overlap reports whether two spans share a token.
func overlap(a, b span) bool {
	return slices.ContainsFunc(tokens(a), func(i int) bool { return slices.Contains(tokens(b), i) })
}

// covered returns the tokens of the spans of a list in runs without gaps.
func covered(l []span) []span {
	in := map[int]bool{}
	end := 0
	for _, s := range l {
		for _, i := range tokens(s) {
			in[i] = true
			end = max(end, i+1)
		}
	}
	var runs []span
	for i := range end {
		switch {
		case in[i] && in[i-1]:
			runs[len(runs)-1].End++
		case in[i]:
			runs = append(runs, at(i, i+1))
		}
	}
	return runs
}

// relation returns the only number whose condition two spans satisfy, or 0.
func relation(a, b span) int {
	if failure([]span{a, b}) != api.OK {
		return 0
	}
	found := 0
	for number, holds := range []bool{false,
		a.End < b.Begin, a.End == b.Begin, a.Begin < b.Begin && b.Begin < a.End && a.End < b.End, a.Begin < b.Begin && a.End == b.End, a.Begin < b.Begin && b.End < a.End, a.Begin == b.Begin && a.End < b.End,
		a == b,
		b.Begin == a.Begin && b.End < a.End, b.Begin < a.Begin && a.End < b.End, b.Begin < a.Begin && b.End == a.End, b.Begin < a.Begin && a.Begin < b.End && b.End < a.End, b.End == a.Begin, b.End < a.Begin,
	} {
		if holds && found != 0 {
			panic("the conditions do not exclude each other")
		}
		if holds {
			found = number
		}
	}
	return found
}

// some reports whether a span stands in a relation to some span of a list.
func some(l []span, related func(span) bool) bool { return slices.ContainsFunc(l, related) }

// checkOne compares the functions of one list with the reference.
func checkOne(t *testing.T, l []span) {
	t.Helper()
	before := slices.Clone(l)
	want := map[string][]span{}
	e := failure(l)
	if e == api.OK {
		want = map[string][]span{"Normalize": normal(l, all), "Cover": covered(l)}
	}
	for name, f := range unaries() {
		if got, g := f(l); !slices.Equal(got, want[name]) || g != e {
			t.Fatalf("%s(%v) = %v, %d; expected %v, %d", name, l, got, g, want[name], e)
		}
	}
	if !slices.Equal(l, before) {
		t.Fatalf("the argument has changed from %v to %v", before, l)
	}
}

// checkTwo compares the functions of two lists with the reference.
func checkTwo(t *testing.T, a, b []span) {
	t.Helper()
	before, other := slices.Clone(a), slices.Clone(b)
	want := map[string][]span{}
	e := failure(a, b)
	if e == api.OK {
		want = map[string][]span{
			"Within":      normal(a, func(s span) bool { return some(b, func(o span) bool { return contains(o, s) }) }),
			"Containing":  normal(a, func(s span) bool { return some(b, func(o span) bool { return contains(s, o) }) }),
			"Overlapping": normal(a, func(s span) bool { return some(b, func(o span) bool { return overlap(s, o) }) }),
		}
	}
	for name, f := range binaries() {
		if got, g := f(a, b); !slices.Equal(got, want[name]) || g != e {
			t.Fatalf("%s(%v, %v) = %v, %d; expected %v, %d", name, a, b, got, g, want[name], e)
		}
	}
	if !slices.Equal(a, before) || !slices.Equal(b, other) {
		t.Fatalf("the arguments have changed from %v, %v to %v, %v", before, other, a, b)
	}
}

// checkRelation compares Relation with the reference, in both directions.
func checkRelation(t *testing.T, a, b span) {
	t.Helper()
	number := interval.Relation(a, b)
	if want := relation(a, b); number != want {
		t.Fatalf("Relation(%v, %v) = %d; expected %d", a, b, number, want)
	}
	converse := interval.Relation(b, a)
	if number == 0 && converse != 0 || number != 0 && number+converse != 14 {
		t.Fatalf("Relation(%v, %v) = %d, but %d the other way round", a, b, number, converse)
	}
}
