package corpus

import (
	"slices"

	"corpora/api"
)

// extent is a text or a region without its pairs.
type extent struct {
	name       string
	begin, end int
}

// ofText divides a text into its extent and its pairs.
func ofText(t api.Text) (extent, []api.Pair) {
	return extent{t.Name, t.Begin, t.End}, t.Meta
}

// ofRegion divides a region into its extent and its pairs.
func ofRegion(r api.Region) (extent, []api.Pair) {
	return extent{r.Type, r.Begin, r.End}, r.Keys
}

// equalExtents reports whether two lists of texts or regions are equal.
func equalExtents[T any](a, b []T, divide func(T) (extent, []api.Pair)) bool {
	return slices.EqualFunc(a, b, func(x, y T) bool {
		first, pairs := divide(x)
		second, others := divide(y)
		return first == second && slices.Equal(pairs, others)
	})
}
