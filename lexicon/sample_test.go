package lexicon_test

import (
	"slices"
	"strconv"
	"strings"
	"testing"

	"corpora/api"
	"corpora/lexicon"
)

// built returns the lexicon of values that are right, and their numbers.
func built(t *testing.T, values ...string) (*lexicon.Lexicon, []int) {
	t.Helper()
	x, numbers, e := lexicon.Build(values)
	if x == nil || e != api.OK || len(numbers) != len(values) {
		t.Fatalf("Build of %d values, %q..: %d numbers, %d", len(values), values[:min(len(values), 8)], len(numbers), e)
	}
	return x, numbers
}

// long returns a value of n bytes.
func long(n int) string { return strings.Repeat("a", n) }

// each returns a list of n values, which a rule tells.
func each(n int, rule func(i int) string) []string {
	values := make([]string, n)
	for i := range values {
		values[i] = rule(i)
	}
	return values
}

// numerals returns n different values.
func numerals(n int) []string { return each(n, strconv.Itoa) }

// cycle returns n values, of which so many are different.
func cycle(n, different int) []string {
	return each(n, func(i int) string { return strconv.Itoa(i % different) })
}

// times returns a list of n equal values.
func times(n int, v string) []string { return each(n, func(int) string { return v }) }

// lists returns all lists of up to n elements out of some.
func lists[T any](n int, elements ...T) [][]T {
	all := [][]T{nil}
	longest := all
	for range n {
		var longer [][]T
		for _, list := range longest {
			for _, x := range elements {
				longer = append(longer, append(slices.Clone(list), x))
			}
		}
		all = append(all, longer...)
		longest = longer
	}
	return all
}

// texts returns all strings of up to n of some pieces.
func texts(n int, pieces ...string) []string {
	var all []string
	for _, list := range lists(n, pieces...) {
		all = append(all, strings.Join(list, ""))
	}
	return all
}

// dice returns a function that returns the numbers of a fixed sequence without an obvious order.
func dice(state uint64) func(below int) int {
	return func(below int) int {
		state = state*6364136223846793005 + 1442695040888963407
		return int(state >> 33 % uint64(below))
	}
}

// scatter returns n values, each made of up to length of some pieces.
func scatter(next func(int) int, n, length int, pieces ...string) []string {
	return each(n, func(int) string {
		return strings.Join(each(next(length+1), func(int) string { return pieces[next(len(pieces))] }), "")
	})
}
