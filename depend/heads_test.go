package depend_test

import (
	"math"
	"slices"
	"testing"

	"corpora/api"
	"corpora/depend"
)

// P9.1

func TestCheck(t *testing.T) {
	for _, c := range []struct {
		heads []int
		index int
		e     api.Errno
	}{
		{nil, 0, api.OK}, {[]int{}, 0, api.OK}, {[]int{-1}, 0, api.OK}, {[]int{-1, -1, -1}, 0, api.OK}, {[]int{1, -1, 1, 2}, 0, api.OK}, {[]int{2, 3, -1, 2}, 0, api.OK}, {[]int{3, 3, 3, -1}, 0, api.OK},
		{[]int{1}, 0, api.ErrRange}, {[]int{-2}, 0, api.ErrRange}, {[]int{-1, 2}, 1, api.ErrRange}, {[]int{-1, 0, 7, -9}, 2, api.ErrRange}, {[]int{math.MinInt, -1}, 0, api.ErrRange}, {[]int{-1, math.MaxInt}, 1, api.ErrRange},
		{[]int{0}, 0, api.ErrCycle}, {[]int{-1, 1}, 1, api.ErrCycle}, {[]int{1, 0}, 0, api.ErrCycle}, {[]int{1, 2, 0}, 0, api.ErrCycle}, {[]int{-1, 3, 0, 1}, 1, api.ErrCycle},
		// A way that leads to a cycle need not lead back.
		{[]int{1, 1}, 1, api.ErrCycle}, {[]int{1, 2, 3, 2}, 2, api.ErrCycle}, {[]int{3, 3, 3, 3}, 3, api.ErrCycle}, {[]int{4, 0, 4, 5, 3, 3}, 3, api.ErrCycle},
		// Of several cycles, the one with the least token counts, not the one that is met first.
		{[]int{4, 2, 1, 4, 3}, 1, api.ErrCycle}, {[]int{5, 1, -1, 3, 4, 5}, 1, api.ErrCycle}, {[]int{3, 2, 1, 3}, 1, api.ErrCycle},
		// An element out of range comes before all cycles.
		{[]int{0, 2}, 1, api.ErrRange}, {[]int{1, 0, 3}, 2, api.ErrRange}, {[]int{0, 1, 2, -2}, 3, api.ErrRange}, {[]int{9, 1}, 0, api.ErrRange},
	} {
		if i, e := depend.Check(c.heads); i != c.index || e != c.e {
			t.Errorf("Check(%v) = %d, %d; expected %d, %d", c.heads, i, e, c.index, c.e)
		}
		checkHeads(t, c.heads)
	}
}

func TestCheckLimits(t *testing.T) {
	ring := chain(4096)
	ring[0] = 4095
	loop := back(4096)
	loop[4095] = 4095
	far := chain(4096)
	far[4095] = 4096
	for i, c := range []struct {
		heads []int
		index int
		e     api.Errno
	}{
		{chain(4096), 0, api.OK}, {back(4096), 0, api.OK}, {star(4096, 4095), 0, api.OK}, {made(4096, func(int) int { return -1 }), 0, api.OK},
		{ring, 0, api.ErrCycle}, {loop, 4095, api.ErrCycle}, {far, 4095, api.ErrRange},
		{chain(4097), 0, api.ErrLimit}, {made(4097, func(int) int { return -1 }), 0, api.ErrLimit}, {made(4097, func(i int) int { return i }), 0, api.ErrLimit}, {made(4097, func(int) int { return -2 }), 0, api.ErrLimit}, {append(far, -7), 0, api.ErrLimit}, {make([]int, 1<<20), 0, api.ErrLimit},
	} {
		if index, e := depend.Check(c.heads); index != c.index || e != c.e {
			t.Errorf("%d: %d, %d; expected %d, %d", i, index, e, c.index, c.e)
		}
	}
}

// P9.2

func TestDepth(t *testing.T) {
	for _, c := range []struct {
		heads []int
		i     int
		want  int
	}{
		{[]int{1, -1, 1, 2}, 3, 2}, {[]int{1, -1, 1, 2}, 2, 1}, {[]int{1, -1, 1, 2}, 1, 0}, {[]int{1, -1, 1, 2}, 0, 1},
		{[]int{1, -1, 1, 2}, -1, -1}, {[]int{1, -1, 1, 2}, 4, -1}, {[]int{1, -1, 1, 2}, math.MinInt, -1}, {[]int{1, -1, 1, 2}, math.MaxInt, -1}, {nil, 0, -1}, {nil, -1, -1},
		{[]int{-1, 0, 3}, 1, -1}, {[]int{-1, 0, -2}, 0, -1}, {[]int{-1, 0, 2}, 1, -1}, {[]int{1, 0}, 0, -1}, {chain(4097), 0, -1},
		{chain(4096), 4095, 4095}, {chain(4096), 0, 0}, {back(4096), 0, 4095}, {back(4096), 4094, 1}, {star(4096, 7), 4095, 1}, {star(4096, 7), 7, 0},
	} {
		if got := depend.Depth(c.heads, c.i); got != c.want {
			t.Errorf("Depth(%.40v.., %d) = %d; expected %d", c.heads[:min(len(c.heads), 8)], c.i, got, c.want)
		}
	}
}

func TestDepthOfEachTokenOfTheLongestChain(t *testing.T) {
	heads := chain(4096)
	for i := range heads {
		if got := depend.Depth(heads, i); got != i {
			t.Fatalf("token %d has %d ancestors", i, got)
		}
	}
}

func TestPath(t *testing.T) {
	two := []int{1, -1, 1, 2, -1, 4, 5, 4}
	for _, c := range []struct {
		heads []int
		a, b  int
		want  []int
		e     api.Errno
	}{
		{two, 0, 3, []int{0, 1, 2, 3}, api.OK}, {two, 3, 0, []int{3, 2, 1, 0}, api.OK}, {two, 3, 1, []int{3, 2, 1}, api.OK}, {two, 1, 3, []int{1, 2, 3}, api.OK}, {two, 2, 3, []int{2, 3}, api.OK}, {two, 3, 2, []int{3, 2}, api.OK},
		{two, 0, 0, []int{0}, api.OK}, {two, 1, 1, []int{1}, api.OK}, {two, 6, 7, []int{6, 5, 4, 7}, api.OK}, {two, 7, 6, []int{7, 4, 5, 6}, api.OK}, {two, 4, 6, []int{4, 5, 6}, api.OK},
		{two, 1, 4, nil, api.ErrMissing}, {two, 3, 6, nil, api.ErrMissing}, {two, 7, 0, nil, api.ErrMissing}, {[]int{-1, -1}, 0, 1, nil, api.ErrMissing},
		// Two ways may meet below their root.
		{[]int{-1, 0, 1, 2, 2, 4}, 3, 5, []int{3, 2, 4, 5}, api.OK}, {[]int{-1, 0, 1, 2, 2, 4}, 5, 3, []int{5, 4, 2, 3}, api.OK}, {[]int{-1, 0, 1, 2, 2, 4}, 5, 1, []int{5, 4, 2, 1}, api.OK},
		{two, -1, 0, nil, api.ErrArg}, {two, 0, -1, nil, api.ErrArg}, {two, 8, 0, nil, api.ErrArg}, {two, 0, 8, nil, api.ErrArg}, {two, 9, 9, nil, api.ErrArg}, {two, math.MinInt, math.MaxInt, nil, api.ErrArg}, {nil, 0, 0, nil, api.ErrArg},
		{[]int{0, -1}, 1, 1, nil, api.ErrArg}, {[]int{-1, 0, 3}, 0, 1, nil, api.ErrArg}, {[]int{-1, -1, -5}, 0, 1, nil, api.ErrArg}, {[]int{2, -1, 0}, 0, 2, nil, api.ErrArg}, {chain(4097), 0, 1, nil, api.ErrArg},
	} {
		if got, e := depend.Path(c.heads, c.a, c.b); !slices.Equal(got, c.want) || e != c.e {
			t.Errorf("Path(%.40v.., %d, %d) = %v, %d; expected %v, %d", c.heads[:min(len(c.heads), 8)], c.a, c.b, got, e, c.want, c.e)
		}
	}
	checkHeads(t, two)
}

func TestPathOfTheLargestTrees(t *testing.T) {
	heads := made(4096, func(i int) int { return i - 2 }) // two chains
	heads[1] = 0                                          // that meet at 0
	heads[0] = -1
	var want []int
	for i := 4094; i >= 0; i -= 2 {
		want = append(want, i)
	}
	for i := 1; i < 4096; i += 2 {
		want = append(want, i)
	}
	if got, e := depend.Path(heads, 4094, 4095); !slices.Equal(got, want) || e != api.OK {
		t.Errorf("the longest path has %d tokens; %d", len(got), e)
	}
	heads[1] = -1
	if got, e := depend.Path(heads, 4094, 4095); got != nil || e != api.ErrMissing {
		t.Errorf("two chains are connected by %d tokens; %d", len(got), e)
	}
	upwards := made(4096, func(i int) int { return i })
	if got, e := depend.Path(chain(4096), 0, 4095); !slices.Equal(got, upwards) || e != api.OK {
		t.Errorf("a chain is connected by %d tokens; %d", len(got), e)
	}
	if got, e := depend.Path(star(4096, 9), 4095, 0); !slices.Equal(got, []int{4095, 9, 0}) || e != api.OK {
		t.Errorf("a star is connected by %v; %d", got, e)
	}
}

func TestPathReturnsNewMemory(t *testing.T) {
	heads := append(make([]int, 0, 8), 1, -1, 1, 2)
	a, _ := depend.Path(heads, 0, 3)
	b, _ := depend.Path(heads, 0, 3)
	for _, list := range [][]int{a, a[:cap(a)]} {
		for i := range list {
			list[i] = 99
		}
	}
	if want := []int{0, 1, 2, 3}; !slices.Equal(b, want) {
		t.Errorf("results share memory: %v", b)
	}
	if want := []int{1, -1, 1, 2, 0, 0, 0, 0}; !slices.Equal(heads[:8], want) {
		t.Errorf("the argument is %v now", heads[:8])
	}
}

// P9.3

func TestProjective(t *testing.T) {
	for _, c := range []struct {
		heads []int
		want  bool
	}{
		{nil, true}, {[]int{-1}, true}, {[]int{1, -1}, true}, {[]int{-1, -1, -1}, true}, {[]int{1, -1, 1, 2}, true}, {[]int{-1, 0, 0, 0}, true}, {[]int{3, 3, 3, -1}, true}, {[]int{3, 0, 0, -1}, true},
		{[]int{2, 3, -1, 2}, false},  // a root below an arc: 2 between 1 and 3
		{[]int{2, -1, -1}, false},    // a root of its own below an arc
		{[]int{2, -1, 1}, false},     // the head of the head below an arc
		{[]int{-1, 3, 0, 0}, false},  // two arcs that cross
		{[]int{2, 3, -1, -1}, false}, // two arcs that cross, of different trees
		{[]int{2, 0, -1}, true},      // the token below an arc is a descendant of the dependent
		{[]int{0}, false}, {[]int{1, 0}, false}, {[]int{-1, 1}, false}, {[]int{1}, false}, {[]int{-2}, false}, {[]int{-1, 0, 9}, false},
		{chain(4096), true}, {back(4096), true}, {star(4096, 0), true}, {star(4096, 2000), true}, {made(4096, func(int) int { return -1 }), true}, {chain(4097), false}, {made(4097, func(int) int { return -1 }), false},
		{made(4096, func(i int) int { return max(i-2, -1) }), false}, {made(4096, func(i int) int { return (i - 1) / 2 * min(i, 1) }), false},
	} {
		if got := depend.Projective(c.heads); got != c.want {
			t.Errorf("Projective(%v..) = %t", c.heads[:min(len(c.heads), 8)], got)
		}
	}
}

func TestProjectiveOfGeneratedHeads(t *testing.T) {
	next := random(93)
	gaps := 0
	for range 4000 {
		heads := generateProjective(next, 1+next(12))
		if !depend.Projective(heads) {
			t.Fatalf("Projective(%v) = false", heads)
		}
		checkHeads(t, heads)
		heads[next(len(heads))] = next(len(heads)+1) - 1
		checkHeads(t, heads)
		if _, e := depend.Check(heads); e == api.OK && !depend.Projective(heads) {
			gaps++
		}
	}
	if gaps < 1000 {
		t.Errorf("only %d heads are valid and not projective", gaps)
	}
}

// P9.1 to P9.3

func TestAllHeads(t *testing.T) {
	for n := range 5 {
		for _, heads := range allHeads(n, -2, n) {
			checkHeads(t, heads)
		}
	}
	for _, heads := range allHeads(5, -1, 4) {
		checkHeads(t, heads)
	}
	for _, heads := range allHeads(6, -1, 5) {
		checkWhole(t, heads)
	}
}

func TestGeneratedHeads(t *testing.T) {
	next := random(91)
	errors := map[api.Errno]int{}
	for range 2000 {
		heads := generate(next, 1+next(14))
		if i, e := depend.Check(heads); i != 0 || e != api.OK {
			t.Fatalf("Check(%v) = %d, %d", heads, i, e)
		}
		checkHeads(t, heads)
		for range 1 + next(2) {
			heads[next(len(heads))] = next(len(heads)+3) - 2
		}
		checkHeads(t, heads)
		_, e := depend.Check(heads)
		errors[e]++
	}
	for _, e := range []api.Errno{api.OK, api.ErrRange, api.ErrCycle} {
		if errors[e] < 200 {
			t.Errorf("the error %d was met only %d times", e, errors[e])
		}
	}
}
