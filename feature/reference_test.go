package feature_test

import (
	"maps"
	"regexp"
	"slices"
	"strings"
	"testing"

	"corpora/api"
	"corpora/feature"
	"corpora/markup"
)

// The reference divides texts with regular expressions and computes with maps.

var (
	anySet     = regexp.MustCompile(`^\|(?:[^|]+\|)*$`)
	anyFeature = regexp.MustCompile(`^[^|]+$`)
	features   = regexp.MustCompile(`[^|]+`)
)

// parsed is what Parse returns.
type parsed struct {
	list []string
	e    api.Errno
}

func (p parsed) equal(q parsed) bool {
	return p.e == q.e && slices.Equal(p.list, q.list)
}

func parsing(s string) parsed {
	list, e := feature.Parse(s)
	return parsed{list, e}
}

func parse(s string) parsed {
	if e := markup.ValidValue(s); e != api.OK {
		return parsed{nil, e}
	}
	if !anySet.MatchString(s) {
		return parsed{nil, api.ErrSyntax}
	}
	list := features.FindAllString(s, -1)
	if !slices.Equal(list, slices.Sorted(maps.Keys(setOf(list)))) {
		return parsed{nil, api.ErrOrder}
	}
	return parsed{list, api.OK}
}

func setOf(list []string) map[string]bool {
	set := map[string]bool{}
	for _, f := range list {
		set[f] = true
	}
	return set
}

// written is what Format, Union and Intersect return.
type written struct {
	s string
	e api.Errno
}

func write(set map[string]bool) written {
	s := "|"
	for _, f := range slices.Sorted(maps.Keys(set)) {
		s += f + "|"
	}
	if len(s) > 120 {
		return written{"", api.ErrLimit}
	}
	return written{s, api.OK}
}

func formatting(list []string) written {
	s, e := feature.Format(list)
	return written{s, e}
}

func format(list []string) written {
	for _, f := range list {
		if e := markup.ValidValue(f); e != api.OK {
			return written{"", e}
		}
		if !anyFeature.MatchString(f) {
			return written{"", api.ErrSyntax}
		}
	}
	return write(setOf(list))
}

// compared is what the functions of two sets return.
type compared struct {
	union, both written
	subset      bool
	e           api.Errno // of Subset
}

func comparing(a, b string) compared {
	var c compared
	c.union.s, c.union.e = feature.Union(a, b)
	c.both.s, c.both.e = feature.Intersect(a, b)
	c.subset, c.e = feature.Subset(a, b)
	return c
}

func compare(a, b string) compared {
	first, second := parse(a), parse(b)
	if e := first.e; e != api.OK {
		return compared{written{"", e}, written{"", e}, false, e}
	}
	if e := second.e; e != api.OK {
		return compared{written{"", e}, written{"", e}, false, e}
	}
	inA, inB := setOf(first.list), setOf(second.list)
	both, all := map[string]bool{}, maps.Clone(inB)
	for f := range inA {
		all[f] = true
		if inB[f] {
			both[f] = true
		}
	}
	return compared{write(all), write(both), len(all) == len(inB), api.OK}
}

// checkSets compares the functions of two sets with the reference.
func checkSets(t *testing.T, a, b string) {
	t.Helper()
	if got, want := comparing(a, b), compare(a, b); got != want {
		t.Fatalf("Union, Intersect and Subset(%q, %q) = %+v; expected %+v", a, b, got, want)
	}
}

// checkHas compares Has with the reference.
func checkHas(t *testing.T, s, f string) {
	t.Helper()
	if got, want := feature.Has(s, f), slices.Contains(parse(s).list, f); got != want {
		t.Fatalf("Has(%q, %q) = %t", s, f, got)
	}
}

// checkParse compares Parse with the reference and writes back what it returns.
func checkParse(t *testing.T, s string) {
	t.Helper()
	got, want := parsing(s), parse(s)
	if !got.equal(want) {
		t.Fatalf("Parse(%q) = %+v; expected %+v", s, got, want)
	}
	if got.e != api.OK {
		return
	}
	if back := formatting(got.list); back != (written{s, api.OK}) {
		t.Fatalf("Format(%q) = %+v; expected %q", got.list, back, s)
	}
}

// checkFormat compares Format with the reference and reads back what it returns.
func checkFormat(t *testing.T, list []string) {
	t.Helper()
	got, want := formatting(list), format(list)
	if got != want {
		t.Fatalf("Format(%q) = %+v; expected %+v", list, got, want)
	}
	if got.e != api.OK {
		return
	}
	if back := parsing(got.s); !back.equal(parsed{slices.Sorted(maps.Keys(setOf(list))), api.OK}) {
		t.Fatalf("Parse(%q) = %+v; expected the set of %q", got.s, back, list)
	}
}

// samples returns all lists of at most n of the pieces.
func samples(n int, pieces []string) [][]string {
	all, last := [][]string{nil}, [][]string{nil}
	for range n {
		var next [][]string
		for _, list := range last {
			for _, piece := range pieces {
				next = append(next, append(slices.Clone(list), piece))
			}
		}
		all, last = append(all, next...), next
	}
	return all
}

// subsets returns the texts of all sets of the features.
func subsets(list []string) []string {
	var all []string
	for bits := range 1 << len(list) {
		set := map[string]bool{}
		for i, f := range list {
			if bits>>i&1 == 1 {
				set[f] = true
			}
		}
		all = append(all, write(set).s)
	}
	return all
}

// random returns a function that returns the numbers of a fixed sequence without an obvious order.
func random(seed uint64) func(below int) int {
	state := seed
	return func(below int) int {
		state = state*6364136223846793005 + 1442695040888963407
		return int(state >> 33 % uint64(below))
	}
}

// long returns a feature of n bytes.
func long(begin string, n int) string {
	return begin + strings.Repeat("x", n-len(begin))
}
