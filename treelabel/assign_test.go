package treelabel_test

import (
	"math"
	"slices"
	"testing"

	"corpora/api"
	"corpora/treelabel"
)

// P10.1

func TestAssign(t *testing.T) {
	for _, c := range []struct {
		parents []int
		want    []label
	}{
		{nil, nil}, {[]int{}, nil}, {[]int{-1}, []label{{0, 0, 0}}},
		{[]int{-1, 0, 0, 1}, []label{{0, 3, 0}, {1, 1, 1}, {3, 2, 1}, {2, 0, 2}}},
		{[]int{-1, -1, -1}, []label{{0, 0, 0}, {1, 1, 0}, {2, 2, 0}}},
		{[]int{-1, 0, 1}, []label{{0, 2, 0}, {1, 1, 1}, {2, 0, 2}}},
		{[]int{-1, 0, 0}, []label{{0, 2, 0}, {1, 0, 1}, {2, 1, 1}}},
		// Parents with greater indices than their children, and trees whose nodes lie among each other.
		{[]int{1, 2, -1}, []label{{2, 0, 2}, {1, 1, 1}, {0, 2, 0}}},
		{[]int{3, 3, 3, -1}, []label{{1, 0, 1}, {2, 1, 1}, {3, 2, 1}, {0, 3, 0}}},
		{[]int{-1, -1, 0, 1, 0}, []label{{0, 2, 0}, {3, 4, 0}, {1, 0, 1}, {4, 3, 1}, {2, 1, 1}}},
		{[]int{3, -1, 0, -1, 1, 3}, []label{{3, 3, 1}, {0, 1, 0}, {4, 2, 2}, {2, 5, 0}, {1, 0, 1}, {5, 4, 1}}},
	} {
		if got, i, e := treelabel.Assign(c.parents); !slices.Equal(got, c.want) || i != 0 || e != api.OK {
			t.Errorf("Assign(%v) = %v, %d, %d; expected %v", c.parents, got, i, e, c.want)
		}
		checkAssign(t, c.parents)
	}
}

// wrong is a list of parents with its error.
type wrong struct {
	parents []int
	index   int
	e       api.Errno
}

func checkWrong(t *testing.T, list ...wrong) {
	t.Helper()
	for _, c := range list {
		if got, i, e := treelabel.Assign(c.parents); got != nil || i != c.index || e != c.e {
			t.Errorf("Assign(%v..) = %v, %d, %d; expected %d, %d", c.parents[:min(len(c.parents), 8)], got, i, e, c.index, c.e)
		}
	}
}

func TestAssignErrors(t *testing.T) {
	checkWrong(t,
		wrong{[]int{1}, 0, api.ErrRange}, wrong{[]int{-2}, 0, api.ErrRange}, wrong{[]int{-1, 2}, 1, api.ErrRange}, wrong{[]int{-1, 0, 5, -3}, 2, api.ErrRange}, wrong{[]int{math.MinInt}, 0, api.ErrRange}, wrong{[]int{-1, math.MaxInt}, 1, api.ErrRange},
		wrong{[]int{0}, 0, api.ErrCycle}, wrong{[]int{-1, 1}, 1, api.ErrCycle}, wrong{[]int{1, 0}, 0, api.ErrCycle}, wrong{[]int{-1, 2, 3, 1}, 1, api.ErrCycle}, wrong{[]int{-1, 0, 3, 2}, 2, api.ErrCycle},
		// A node below a cycle is none to which its parents lead back.
		wrong{[]int{1, 1}, 1, api.ErrCycle}, wrong{[]int{1, 2, 3, 2}, 2, api.ErrCycle}, wrong{[]int{4, 0, 4, 5, 3, 3}, 3, api.ErrCycle},
		// The cycle with the least node counts, not the one that is met first.
		wrong{[]int{3, 2, 1, 3}, 1, api.ErrCycle}, wrong{[]int{5, 1, -1, 3, 4, 5}, 1, api.ErrCycle},
		// No parent outside comes behind a cycle.
		wrong{[]int{0, 2}, 1, api.ErrRange}, wrong{[]int{1, 0, -2}, 2, api.ErrRange}, wrong{[]int{0, 1, 2, 4}, 3, api.ErrRange},
	)
}

func TestAssignLimits(t *testing.T) {
	ring, far := each(4096, previous), each(4096, previous)
	ring[0], far[4095] = 4095, 4096
	checkWrong(t,
		wrong{each(4097, previous), 0, api.ErrLimit}, wrong{each(4097, alone), 0, api.ErrLimit}, wrong{make([]int, 4097), 0, api.ErrLimit}, wrong{each(4097, func(int) int { return -2 }), 0, api.ErrLimit}, wrong{append(far, 1), 0, api.ErrLimit}, wrong{make([]int, 1<<20), 0, api.ErrLimit},
		wrong{ring, 0, api.ErrCycle}, wrong{far, 4095, api.ErrRange}, wrong{each(4096, func(int) int { return 4095 }), 4095, api.ErrCycle},
	)
	for i, c := range []struct {
		parents []int
		want    func(i int) label
	}{
		{each(4096, previous), func(i int) label { return label{i, 4095 - i, i} }},
		{each(4096, func(i int) int { return (i+2)%4097 - 1 }), func(i int) label { return label{4095 - i, i, 4095 - i} }},
		{each(4096, star), func(i int) label { return label{i, (i + 4095) % 4096, min(i, 1)} }},
		{each(4096, alone), func(i int) label { return label{i, i, 0} }},
	} {
		for k, got := range labelsOf(t, c.parents) {
			if got != c.want(k) {
				t.Fatalf("%d: the label of node %d is %v", i, k, got)
			}
		}
	}
}

func TestAssignOfAllParents(t *testing.T) {
	for n := range 5 {
		for _, parents := range lists(n, between(-2, n)...) {
			checkAssign(t, parents)
		}
	}
	for n := 5; n <= 6; n++ {
		for _, parents := range lists(n, between(-1, n-1)...) {
			checkAssign(t, parents)
		}
	}
}

func TestAssignOfGeneratedParents(t *testing.T) {
	next := dice(101)
	errors := map[api.Errno]int{}
	for range 5000 {
		parents := grow(next, 1+next(30))
		if _, _, e := treelabel.Assign(parents); e != api.OK {
			t.Fatalf("Assign(%v) = %d", parents, e)
		}
		checkAssign(t, parents)
		for range 1 + next(2) {
			parents[next(len(parents))] = next(len(parents)+3) - 2
		}
		checkAssign(t, parents)
		_, _, e := treelabel.Assign(parents)
		errors[e]++
	}
	for _, e := range []api.Errno{api.OK, api.ErrRange, api.ErrCycle} {
		if errors[e] < 500 {
			t.Errorf("the error %d was met only %d times", e, errors[e])
		}
	}
}

func TestAssignReturnsNewMemory(t *testing.T) {
	parents := append(make([]int, 0, 8), -1, 0, 0, 1)
	a, b := labelsOf(t, parents), labelsOf(t, parents)
	for i := range a {
		a[i] = label{9, 9, 9}
	}
	if want := []label{{0, 3, 0}, {1, 1, 1}, {3, 2, 1}, {2, 0, 2}}; !slices.Equal(b, want) {
		t.Errorf("results share memory: %v", b)
	}
	if want := []int{-1, 0, 0, 1, 0, 0, 0, 0}; !slices.Equal(parents[:8], want) {
		t.Errorf("the argument is %v now", parents[:8])
	}
}
