package treelabel_test

import (
	"math"
	"testing"

	"corpora/treelabel"
)

// P10.3

func TestRelations(t *testing.T) {
	labels := labelsOf(t, []int{-1, 0, 0, 1, -1})
	for _, c := range []struct {
		i, j              int
		dominates, before bool
	}{
		{0, 1, true, false}, {0, 2, true, false}, {0, 3, true, false}, {1, 3, true, false}, {1, 0, false, false}, {3, 0, false, false}, {3, 1, false, false},
		{1, 2, false, true}, {3, 2, false, true}, {0, 4, false, true}, {3, 4, false, true}, {2, 1, false, false}, {2, 3, false, false}, {4, 0, false, false}, {4, 3, false, false},
		{0, 0, false, false}, {3, 3, false, false},
	} {
		a, b := labels[c.i], labels[c.j]
		if treelabel.Dominates(a, b) != c.dominates || treelabel.Precedes(a, b) != c.before {
			t.Errorf("%d dominates %d: %t, precedes it: %t", c.i, c.j, !c.dominates, !c.before)
		}
	}
}

func TestRelationsInAllForests(t *testing.T) {
	for n := range 6 {
		for _, parents := range forests(n) {
			checkRelations(t, parents)
		}
	}
	next := dice(103)
	for range 300 {
		checkRelations(t, grow(next, 1+next(20)))
	}
}

// The numbers decide, also where no forest has these labels.
func TestRelationsOfAllNumbers(t *testing.T) {
	var all []label
	for _, numbers := range lists(2, math.MinInt, -1, 0, 1, 2, math.MaxInt) {
		for _, depth := range []int{math.MinInt, 0, 1} {
			all = append(all, label{numbers[0], numbers[1], depth})
		}
	}
	for _, a := range all {
		for _, b := range all {
			if got := treelabel.Dominates(a, b); got != (a.Pre < b.Pre && a.Post > b.Post) {
				t.Fatalf("Dominates(%v, %v) = %t", a, b, got)
			}
			if got := treelabel.Precedes(a, b); got != (a.Pre < b.Pre && a.Post < b.Post) {
				t.Fatalf("Precedes(%v, %v) = %t", a, b, got)
			}
		}
	}
}

// P10.4

func TestSistersAndCommon(t *testing.T) {
	labels := labelsOf(t, []int{-1, 0, 0, 1, -1, 4, 3, 1})
	for _, c := range []struct {
		i, j    int
		sisters bool
		common  int
	}{
		{1, 2, true, 0}, {2, 1, true, 0}, {3, 7, true, 1}, {0, 4, true, -1}, {4, 0, true, -1},
		{3, 2, false, 0}, {2, 6, false, 0}, {6, 7, false, 1}, {7, 6, false, 1}, {5, 6, false, -1}, {2, 5, false, -1}, {4, 3, false, -1},
		{1, 3, false, 1}, {3, 1, false, 1}, {6, 0, false, 0}, {0, 6, false, 0}, {5, 4, false, 4},
		{0, 0, false, 0}, {4, 4, false, 4}, {6, 6, false, 6},
		{-1, 0, false, -1}, {0, -1, false, -1}, {-1, -1, false, -1}, {8, 0, false, -1}, {0, 8, false, -1}, {8, 8, false, -1}, {math.MinInt, 1, false, -1}, {1, math.MaxInt, false, -1},
	} {
		if got := treelabel.Sisters(labels, c.i, c.j); got != c.sisters {
			t.Errorf("Sisters(%d, %d) = %t", c.i, c.j, got)
		}
		if got := treelabel.Common(labels, c.i, c.j); got != c.common {
			t.Errorf("Common(%d, %d) = %d; expected %d", c.i, c.j, got, c.common)
		}
	}
	checkPairs(t, labels)
}

func TestSistersAndCommonOfWrongLabels(t *testing.T) {
	for i, labels := range [][]label{
		nil, {}, {{0, 0, 1}}, {{0, 1, 0}, {1, 2, 0}}, {{0, 0, 0}, {1, 1, 1}}, {{0, 2, 0}, {2, 1, 1}, {1, 0, 1}}, {{1, 1, 0}, {0, 0, 0}}, {{-9, 9, 0}, {9, -9, 1}}, make([]label, 4096),
		chainLabels(4097), make([]label, 4097), labelsOf(t, each(4096, star))[:4095],
	} {
		for _, pair := range [][2]int{{0, 0}, {0, 1}, {1, 0}, {1, 2}, {-1, 0}} {
			if treelabel.Sisters(labels, pair[0], pair[1]) {
				t.Errorf("%d: %v are sisters", i, pair)
			}
			if got := treelabel.Common(labels, pair[0], pair[1]); got != -1 {
				t.Errorf("%d: %v have %d in common", i, pair, got)
			}
		}
	}
}

func TestSistersAndCommonOfTheLargestForests(t *testing.T) {
	half := func(i int) int { return max(i-2, -1) } // two chains
	for i, c := range []struct {
		rule      func(int) int
		from, to  int
		sisters   bool
		both, top int // common to these two, and to the first and 0
	}{
		{previous, 4095, 4094, false, 4094, 0}, {star, 4095, 4094, true, 0, 0}, {alone, 4095, 4094, true, -1, -1}, {binary, 4094, 4093, true, 2046, 0}, {binary, 4095, 4094, false, 0, 0}, {half, 4095, 4094, false, -1, -1}, {half, 4094, 4092, false, 4092, 0}, {half, 1, 0, true, -1, -1},
	} {
		labels := labelsOf(t, each(4096, c.rule))
		if got := treelabel.Sisters(labels, c.from, c.to); got != c.sisters {
			t.Errorf("%d: Sisters(%d, %d) = %t", i, c.from, c.to, got)
		}
		if got := treelabel.Common(labels, c.from, c.to); got != c.both {
			t.Errorf("%d: Common(%d, %d) = %d", i, c.from, c.to, got)
		}
		if got := treelabel.Common(labels, c.from, 0); got != c.top {
			t.Errorf("%d: Common(%d, 0) = %d", i, c.from, got)
		}
	}
}

func TestSistersAndCommonInAllForests(t *testing.T) {
	for n := range 6 {
		for _, parents := range forests(n) {
			checkPairs(t, labelsOf(t, parents))
		}
	}
	next := dice(104)
	for range 100 {
		labels := labelsOf(t, grow(next, 1+next(12)))
		checkPairs(t, labels)
		spoil(next, labels)
		checkPairs(t, labels)
	}
}

func FuzzTreelabel(f *testing.F) {
	f.Add([]byte{1, 2, 2, 3}, []byte{1, 4, 1, 2, 2, 2, 4, 3, 2, 3, 1, 3})
	f.Add([]byte{0, 9, 3, 1}, []byte{0, 0, 0})
	f.Fuzz(func(t *testing.T, first, second []byte) {
		first, second = first[:min(len(first), 16)], second[:min(len(second), 36)]
		parents := each(len(first), func(i int) int { return int(first[i])%(len(first)+3) - 2 })
		checkAssign(t, parents)
		labels := make([]label, len(second)/3)
		for i := range labels {
			labels[i] = label{int(second[3*i]) - 1, int(second[3*i+1]) - 1, int(second[3*i+2]) - 1}
		}
		checkParents(t, labels)
		checkPairs(t, labels)
	})
}
