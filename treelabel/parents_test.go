package treelabel_test

import (
	"math"
	"slices"
	"testing"

	"corpora/api"
	"corpora/treelabel"
)

// P10.2

func TestParents(t *testing.T) {
	for _, c := range []struct {
		labels []label
		want   []int
	}{
		{nil, nil}, {[]label{}, nil}, {[]label{{0, 0, 0}}, []int{-1}},
		{[]label{{0, 3, 0}, {1, 1, 1}, {3, 2, 1}, {2, 0, 2}}, []int{-1, 0, 0, 1}},
		{[]label{{0, 0, 0}, {1, 1, 0}, {2, 2, 0}}, []int{-1, -1, -1}},
		{[]label{{2, 0, 2}, {1, 1, 1}, {0, 2, 0}}, []int{1, 2, -1}},
		{[]label{{0, 2, 0}, {3, 4, 0}, {1, 0, 1}, {4, 3, 1}, {2, 1, 1}}, []int{-1, -1, 0, 1, 0}},
	} {
		if got, e := treelabel.Parents(c.labels); !slices.Equal(got, c.want) || e != api.OK {
			t.Errorf("Parents(%v) = %v, %d; expected %v", c.labels, got, e, c.want)
		}
		checkParents(t, c.labels)
	}
}

func TestParentsErrors(t *testing.T) {
	for _, labels := range [][]label{
		// One number is wrong.
		{{1, 0, 0}}, {{-1, 0, 0}}, {{0, 1, 0}}, {{0, -1, 0}}, {{0, 0, 1}}, {{0, 0, -1}}, {{math.MaxInt, 0, 0}}, {{math.MinInt, 0, 0}}, {{0, math.MaxInt, 0}}, {{0, math.MinInt, 0}}, {{0, 0, math.MaxInt}}, {{0, 0, math.MinInt}},
		{{0, 0, 0}, {1, 1, 1}}, {{0, 1, 0}, {1, 0, 0}}, {{0, 1, 0}, {1, 0, 2}}, {{0, 1, 0}, {1, 0, math.MaxInt}}, {{0, 1, 0}, {1, 0, -1}}, {{0, 2, 0}, {1, 1, 1}, {2, 0, 1}},
		// Two nodes have the same place, or a place remains free.
		{{0, 0, 0}, {0, 1, 0}}, {{0, 0, 0}, {1, 0, 0}}, {{0, 1, 0}, {0, 0, 1}}, {{0, 0, 0}, {0, 0, 0}}, {{0, 1, 0}, {2, 0, 1}}, {{1, 1, 0}, {2, 0, 1}}, {{0, 0, 0}, {1, 2, 0}},
		// The order of sisters, or of roots, is not that of their indices.
		{{1, 1, 0}, {0, 0, 0}}, {{0, 2, 0}, {2, 1, 1}, {1, 0, 1}}, {{2, 2, 0}, {0, 1, 0}, {1, 0, 1}},
		// Preorder and postorder are those of different forests.
		{{0, 1, 0}, {1, 2, 1}, {2, 0, 2}}, {{0, 0, 0}, {1, 2, 0}, {2, 1, 0}},
	} {
		if got, e := treelabel.Parents(labels); got != nil || e != api.ErrCorrupt {
			t.Errorf("Parents(%v) = %v, %d", labels, got, e)
		}
		checkParents(t, labels)
	}
}

func TestParentsLimits(t *testing.T) {
	for i, rule := range []func(int) int{previous, star, alone, binary, func(i int) int { return (i+2)%4097 - 1 }} {
		parents := each(4096, rule)
		labels := labelsOf(t, parents)
		if got, e := treelabel.Parents(labels); !slices.Equal(got, parents) || e != api.OK {
			t.Errorf("%d: the labels of %d nodes have other parents; %d", i, len(labels), e)
		}
		for _, change := range []func(*label){func(l *label) { l.Pre++ }, func(l *label) { l.Post++ }, func(l *label) { l.Depth++ }} {
			wrong := slices.Clone(labels)
			change(&wrong[4095])
			if got, e := treelabel.Parents(wrong); got != nil || e != api.ErrCorrupt {
				t.Errorf("%d: wrong labels have parents; %d", i, e)
			}
		}
	}
	for i, labels := range [][]label{chainLabels(4097), make([]label, 4097), slices.Repeat([]label{{-1, -1, -1}}, 1<<20)} {
		if got, e := treelabel.Parents(labels); got != nil || e != api.ErrLimit {
			t.Errorf("%d: Parents of too many labels = %v, %d", i, got, e)
		}
	}
}

// chainLabels returns labels that would be right but for their number.
func chainLabels(n int) []label {
	var labels []label
	for i := range n {
		labels = append(labels, label{i, n - 1 - i, i})
	}
	return labels
}

func TestParentsOfAllLabels(t *testing.T) {
	var small []label
	for _, numbers := range lists(3, between(-1, 2)...) {
		small = append(small, label{numbers[0], numbers[1], numbers[2]})
	}
	for n := range 3 {
		for _, labels := range lists(n, small...) {
			checkParents(t, labels)
		}
	}
	small = slices.DeleteFunc(small, func(l label) bool { return min(l.Pre, l.Post, l.Depth) < 0 })
	right := 0
	for _, labels := range lists(3, small...) {
		checkParents(t, labels)
		if _, e := treelabel.Parents(labels); e == api.OK {
			right++
		}
	}
	if want := len(forests(3)); right != want {
		t.Errorf("there are %d lists of labels for %d forests", right, want)
	}
}

func TestParentsOfChangedLabels(t *testing.T) {
	for n := 1; n <= 4; n++ {
		for _, parents := range forests(n) {
			labels := labelsOf(t, parents)
			for i, l := range labels {
				for number := -1; number <= n; number++ {
					for _, changed := range []label{{number, l.Post, l.Depth}, {l.Pre, number, l.Depth}, {l.Pre, l.Post, number}} {
						labels[i] = changed
						checkParents(t, labels)
						if _, e := treelabel.Parents(labels); (e == api.OK) != (changed == l) {
							t.Fatalf("Parents(%v) = %d", labels, e)
						}
					}
				}
				labels[i] = l
			}
		}
	}
}

func TestParentsOfSpoiledLabels(t *testing.T) {
	next := dice(102)
	errors := map[api.Errno]int{}
	for range 10000 {
		labels := labelsOf(t, grow(next, 1+next(14)))
		spoil(next, labels)
		checkParents(t, labels)
		_, e := treelabel.Parents(labels)
		errors[e]++
	}
	for _, e := range []api.Errno{api.OK, api.ErrCorrupt} {
		if errors[e] < 500 {
			t.Errorf("the error %d was met only %d times", e, errors[e])
		}
	}
}

func TestParentsReturnsNewMemory(t *testing.T) {
	labels := append(make([]label, 0, 4), label{0, 1, 0}, label{1, 0, 1})
	a, _ := treelabel.Parents(labels)
	b, _ := treelabel.Parents(labels)
	a[0], a[1] = 9, 9
	if !slices.Equal(b, []int{-1, 0}) {
		t.Errorf("results share memory: %v", b)
	}
	if want := []label{{0, 1, 0}, {1, 0, 1}, {}, {}}; !slices.Equal(labels[:4], want) {
		t.Errorf("the argument is %v now", labels[:4])
	}
}
