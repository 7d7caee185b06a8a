package stab_test

import (
	"slices"
	"testing"

	"corpora/api"
	"corpora/stab"
)

// most is the greatest end of a span.
const most = 1<<31 - 1

// span is short for a span.
type span = api.Span

// at returns the span from a begin to an end.
func at(begin, end int) span { return span{Begin: begin, End: end} }

// spans returns a list of spans of begins and ends by turns.
func spans(numbers ...int) []span {
	var l []span
	for pair := range slices.Chunk(numbers, 2) {
		l = append(l, at(pair[0], pair[1]))
	}
	return l
}

// built returns the index of spans that are right.
func built(t *testing.T, l []span) *stab.Index {
	t.Helper()
	x, e := stab.Build(l)
	if x == nil || e != api.OK {
		t.Fatalf("Build of %d spans, %v..: %d", len(l), l[:min(len(l), 8)], e)
	}
	return x
}

// finders returns the methods of an index that are given a span by their names.
func finders(x *stab.Index) map[string]func(span) []int {
	return map[string]func(span) []int{"Overlap": x.Overlap, "Inside": x.Inside, "Around": x.Around}
}

// lists returns all lists of up to n elements out of some.
func lists[T any](n int, elements ...T) [][]T {
	all := [][]T{nil}
	longest := all
	for range n {
		var longer [][]T
		for _, list := range longest {
			for _, x := range elements {
				longer = append(longer, append(slices.Clone(list), x))
			}
		}
		all = append(all, longer...)
		longest = longer
	}
	return all
}

// between returns all pairs of numbers from one to another, both included, as spans.
func between(from, to int) []span {
	var pairs []span
	for begin := from; begin <= to; begin++ {
		for end := from; end <= to; end++ {
			pairs = append(pairs, at(begin, end))
		}
	}
	return pairs
}

// spansTo returns all valid spans whose tokens are less than end.
func spansTo(end int) []span {
	return slices.DeleteFunc(between(0, end), func(s span) bool { return s.Begin >= s.End })
}

// each returns a list of n spans, which a rule tells.
func each(n int, rule func(i int) span) []span {
	l := make([]span, n)
	for i := range l {
		l[i] = rule(i)
	}
	return l
}

// single is a rule for spans of one token.
func single(i int) span { return at(i, i+1) }

// dice returns a function that returns the numbers of a fixed sequence without an obvious order.
func dice(state uint64) func(below int) int {
	return func(below int) int {
		state = state*6364136223846793005 + 1442695040888963407
		return int(state >> 33 % uint64(below))
	}
}

// scatter returns n spans with tokens less than end, most of them no longer than length.
func scatter(next func(int) int, n, end, length int) []span {
	return each(n, func(int) span {
		begin := next(end)
		if next(10) == 0 {
			return at(begin, begin+1+next(end-begin))
		}
		return at(begin, min(begin+1+next(length), end))
	})
}

// stretch puts numbers from 0 to 8 far apart, up to the greatest end, in their order.
func stretch(l []span) []span {
	places := []int{0, 1, 2, 127, 128, 1 << 20, most - 1<<20, most - 1, most}
	return each(len(l), func(i int) span { return at(places[l[i].Begin], places[l[i].End]) })
}
