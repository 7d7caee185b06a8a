package feature

import (
	"slices"
	"strings"

	"corpora/api"
	"corpora/markup"
)

// bar stands in front of the features of a set and behind each of them.
const bar = "|"

// read returns the features of each of the sets, or the error of the first one
// that is none.
func read(texts ...string) ([][]string, api.Errno) {
	var sets [][]string
	for _, s := range texts {
		features, e := Parse(s)
		if e != api.OK {
			return nil, e
		}
		sets = append(sets, features)
	}
	return sets, api.OK
}

// split returns what stands between the bars of s, in whatever order, and
// reports whether the bars are where those of a set are.
func split(s string) ([]string, bool) {
	rest, ok := strings.CutPrefix(s, bar)
	if !ok {
		return nil, false
	}
	var features []string
	for rest != "" {
		feature, behind, closed := strings.Cut(rest, bar)
		if feature == "" || !closed {
			return nil, false
		}
		features = append(features, feature)
		rest = behind
	}
	return features, true
}

// ascending reports whether each of the features is greater than the one before it.
func ascending(features []string) bool {
	for i := 1; i < len(features); i++ {
		if features[i-1] >= features[i] {
			return false
		}
	}
	return true
}

// check returns the reason why s is not a feature.
func check(s string) api.Errno {
	if e := markup.ValidValue(s); e != api.OK {
		return e
	}
	if s == "" || strings.Contains(s, bar) {
		return api.ErrSyntax
	}
	return api.OK
}

// common returns those of the features that are others, too.
func common(features, others []string) []string {
	var both []string
	for _, feature := range features {
		if slices.Contains(others, feature) {
			both = append(both, feature)
		}
	}
	return both
}

// text returns the text of the set of these features, which may come in any
// order and more than once.
func text(features []string) (string, api.Errno) {
	var set []string
	size := len(bar)
	for _, feature := range features {
		at, found := slices.BinarySearch(set, feature)
		if found {
			continue
		}
		size += len(feature) + len(bar)
		// Leaving here keeps the set small, however long the list is.
		if size > api.MaxValue {
			return "", api.ErrLimit
		}
		set = insert(set, at, feature)
	}
	return join(set), api.OK
}

// insert makes room for a feature in front of element at, and puts it there.
func insert(set []string, at int, feature string) []string {
	set = append(set, "")
	copy(set[at+1:], set[at:])
	set[at] = feature
	return set
}

// join writes a sorted set.
func join(set []string) string {
	var joined strings.Builder
	joined.WriteString(bar)
	for _, feature := range set {
		joined.WriteString(feature + bar)
	}
	return joined.String()
}
