package postings_test

import (
	"bytes"
	"math"
	"slices"
	"testing"

	"corpora/api"
	"corpora/checksum"
	"corpora/postings"
)

// P17.1

// checkAccess compares Len, All and At with the positions of a list.
func checkAccess(t *testing.T, l *postings.List, positions []int) {
	t.Helper()
	size := len(positions)
	if l.Len() != size {
		t.Fatalf("Len of %d positions = %d", size, l.Len())
	}
	if got := l.All(); !slices.Equal(got, positions) {
		t.Fatalf("All of %d positions, %v.., has %d: %v..", size, positions[:min(size, 40)], len(got), got[:min(len(got), 40)])
	}
	for i, want := range positions {
		if got, ok := l.At(i); got != want || !ok {
			t.Fatalf("At(%d) of %d positions = %d, %v; expected %d", i, size, got, ok, want)
		}
	}
	for _, i := range []int{-1, -2, -15, -16, -17, size, size + 1, size + 15, size + 16, 1 << 32, math.MinInt, math.MaxInt} {
		if got, ok := l.At(i); got != 0 || ok {
			t.Fatalf("At(%d) of %d positions = %d, %v", i, size, got, ok)
		}
	}
}

// checkList compares all that a list tells with the reference, and also when its bytes have been decoded.
func checkList(t *testing.T, positions []int) {
	t.Helper()
	want := checksum.Seal(payloadOf(positions))
	l := built(t, positions)
	read, e := postings.Decode(want)
	if e != api.OK {
		t.Fatalf("Decode of the encoding of %d positions, %v..: %d", len(positions), positions[:min(len(positions), 8)], e)
	}
	for i, l := range []*postings.List{l, read} {
		checkAccess(t, l, positions)
		checkSeek(t, l, positions)
		if got := l.Encode(); !bytes.Equal(got, want) {
			t.Fatalf("%d: Encode of %d positions, %v.. = %v; expected %v", i, len(positions), positions[:min(len(positions), 40)], got, want)
		}
	}
}

func TestBuild(t *testing.T) {
	if postings.SkipSize != 16 {
		t.Errorf("SkipSize = %d", postings.SkipSize)
	}
	for _, positions := range samples() {
		checkList(t, positions)
	}
}

func TestAllSizes(t *testing.T) {
	next := dice(172)
	for n := range 200 {
		for _, width := range []int{2, 40, 5000, 1000000} {
			checkList(t, scattered(next, n, width))
		}
	}
}

func TestAllShortLists(t *testing.T) {
	for _, positions := range subsets(10) {
		checkList(t, positions)
	}
}

// A wider gap stands at each place of a part.
func TestAllPlacesOfGaps(t *testing.T) {
	for _, gap := range []int{2, 3, 100, 1 << 20} {
		for i := range 50 {
			checkList(t, append(run(0, i), run(i-1+gap, 50-i)...))
		}
	}
}

func TestErrorsOfPositions(t *testing.T) {
	check := func(positions []int) {
		t.Helper()
		want := errorOf(positions)
		if l, e := postings.Build(positions); e != want || (l != nil) != (want == api.OK) {
			t.Errorf("Build of %d positions, %v.. = %v, %d; expected %d", len(positions), positions[:min(len(positions), 8)], l != nil, e, want)
		}
	}
	some := []int{0, 1, 5, most - 1, most, -1, -2, -16, -most, most + 1, most + 2, 1 << 32, 1<<32 + 9, math.MinInt, math.MaxInt}
	for _, positions := range lists(3, some...) {
		check(positions)
	}
	for _, n := range []int{1, 2, 16, 17, 33, 4095, 4096, 4097, 4098, 8192, 1 << 17} {
		check(run(0, n))
		check(run(most+1-n, n))
		check(run(most+2-n, n))
		check(run(-1, n))
		check(make([]int, n))
		for _, v := range some {
			for _, i := range []int{0, n / 2, n - 1} {
				check(with(run(3, n), i, v))
				check(with(run(3, n), i, v, v))
				check(with(run(3, n), i, v, 1<<32))
			}
		}
	}
}

// The limit comes before the positions, a position before the next one, and its range before its order.
func TestOrderOfErrors(t *testing.T) {
	for _, c := range []struct {
		positions []int
		want      api.Errno
	}{
		{[]int{-1}, api.ErrRange}, {[]int{most + 1}, api.ErrRange}, {[]int{3, 3}, api.ErrOrder}, {[]int{3, 2}, api.ErrOrder}, {[]int{0, 0}, api.ErrOrder}, {[]int{most, most}, api.ErrOrder},
		// The same position is out of range, too.
		{[]int{3, -1}, api.ErrRange}, {[]int{0, math.MinInt}, api.ErrRange},
		// The first wrong position counts.
		{[]int{3, 2, -1}, api.ErrOrder}, {[]int{3, 3, most + 1}, api.ErrOrder}, {[]int{3, most + 1, 2}, api.ErrRange}, {[]int{-1, -1}, api.ErrRange}, {[]int{-2, -1, 0}, api.ErrRange}, {[]int{3, most + 1, most + 1}, api.ErrRange},
		{run(0, 4096), api.OK}, {run(0, 4097), api.ErrLimit}, {run(-1, 4097), api.ErrLimit}, {make([]int, 4096), api.ErrOrder}, {make([]int, 4097), api.ErrLimit}, {run(-1, 4096), api.ErrRange}, {run(most-4094, 4096), api.ErrRange},
		{with(run(0, 4096), 4095, 4094), api.ErrOrder}, {with(run(0, 4096), 4095, most), api.OK}, {with(run(0, 4096), 4095, most+1), api.ErrRange}, {with(run(0, 17), 16, 15), api.ErrOrder},
	} {
		if l, e := postings.Build(c.positions); e != c.want || (l != nil) != (c.want == api.OK) {
			t.Errorf("Build of %d positions, %v.. = %v, %d; expected %d", len(c.positions), c.positions[:min(len(c.positions), 8)], l != nil, e, c.want)
		}
	}
}

func TestListsAreNewMemory(t *testing.T) {
	for _, positions := range [][]int{{1, 2, 3}, steps(5, 16, 3), steps(5, 40, 300)} {
		want := built(t, positions).Encode()
		given := roomy(positions, 40)
		held := slices.Clone(given[:cap(given)])
		l, other := built(t, given), built(t, given)
		if !slices.Equal(given[:cap(given)], held) {
			t.Fatalf("the argument is %v now", given[:cap(given)])
		}
		overwrite(given)
		first, second := l.All(), l.All()
		overwrite(first)
		if !slices.Equal(second, positions) {
			t.Fatalf("two results share memory: %v", second)
		}
		overwrite(second)
		overwrite(l.Encode())
		for _, l := range []*postings.List{l, other} {
			checkAccess(t, l, positions)
			checkSeek(t, l, positions)
			if got := l.Encode(); !bytes.Equal(got, want) {
				t.Fatalf("Encode = %v; expected %v", got, want)
			}
		}
	}
}

func TestListsAreIndependent(t *testing.T) {
	a, b, c := steps(0, 40, 3), steps(7, 33, 1000), []int{8}
	x, y := built(t, a), built(t, b)
	checkAccess(t, x, a)
	z := built(t, c)
	checkSeek(t, y, b)
	checkAccess(t, y, b)
	checkSeek(t, x, a)
	checkAccess(t, x, a)
	checkAccess(t, z, c)
}
