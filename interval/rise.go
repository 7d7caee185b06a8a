package interval

import (
	"cmp"
	"slices"
	"sort"

	"corpora/api"
)

// point is a height at a place.
type point struct{ place, height int }

// endAtBegin is the point by which a span is found to contain or to overlap another one,
// beginAtEnd that by which it is found to be contained.
func endAtBegin(s api.Span) point { return point{s.Begin, s.End} }
func beginAtEnd(s api.Span) point { return point{s.End, s.Begin} }

// rise tells the greatest height up to each place.
type rise []point

// riseOf returns the rise over the points of spans.
func riseOf(l []api.Span, pointOf func(api.Span) point) rise {
	r := make(rise, len(l))
	for i, s := range l {
		r[i] = pointOf(s)
	}
	slices.SortFunc(r, func(a, b point) int { return cmp.Compare(a.place, b.place) })
	for i := 1; i < len(r); i++ {
		r[i].height = max(r[i].height, r[i-1].height)
	}
	return r
}

// upTo returns the greatest height at the places up to one, and -1 if there is none.
func (r rise) upTo(place int) int {
	past := sort.Search(len(r), func(i int) bool { return r[i].place > place })
	if past == 0 {
		return -1
	}
	return r[past-1].height
}
