package interval

import (
	"cmp"
	"slices"

	"corpora/api"
)

// The relations of two spans that are not converses of others; none is that of spans
// that are not valid.
const (
	none = iota
	before
	meets
	overlaps
	finishedBy
	contains
	starts
	equals

	// converses is the sum of a relation and its converse: to be equal is its own one.
	converses = 2 * equals
)

// direct returns the relation of two valid spans, or none if it is the converse of another.
func direct(a, b api.Span) int {
	switch {
	case a.End < b.Begin:
		return before
	case a.End == b.Begin:
		return meets
	case a == b:
		return equals
	case a.Begin < b.Begin && a.End < b.End:
		return overlaps
	case a.Begin < b.Begin && a.End == b.End:
		return finishedBy
	case a.Begin < b.Begin:
		return contains
	case a.Begin == b.Begin && a.End < b.End:
		return starts
	}
	return none
}

// valid reports whether a span has tokens, none of them before the first one.
func valid(s api.Span) bool {
	return 0 <= s.Begin && s.Begin < s.End
}

// check returns the first error of the lists of a call.
func check(lists ...[]api.Span) api.Errno {
	for _, l := range lists {
		if len(l) > api.MaxList {
			return api.ErrLimit
		}
		for _, s := range l {
			if !valid(s) {
				return api.ErrRange
			}
		}
	}
	return api.OK
}

// normal returns the normal list of the spans of l.
func normal(l []api.Span) []api.Span {
	sorted := slices.Clone(l)
	slices.SortFunc(sorted, func(a, b api.Span) int {
		return cmp.Or(cmp.Compare(a.Begin, b.Begin), cmp.Compare(b.End, a.End))
	})
	return slices.Compact(sorted)
}
