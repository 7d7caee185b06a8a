package postings_test

import (
	"math"
	"slices"
	"testing"

	"corpora/postings"
)

// P17.2

// checkAround compares Seek and Rank of p with the reference.
func checkAround(t *testing.T, l *postings.List, positions []int, p int) {
	t.Helper()
	want := sought(positions, p)
	if pos, rank, ok := l.Seek(p); (found{pos, rank, ok}) != want {
		t.Fatalf("Seek(%d) of %d positions, %v.. = %d, %d, %v; expected %v", p, len(positions), positions[:min(len(positions), 40)], pos, rank, ok, want)
	}
	if got, want := l.Rank(p), rankOf(positions, p); got != want {
		t.Fatalf("Rank(%d) of %d positions, %v.. = %d; expected %d", p, len(positions), positions[:min(len(positions), 40)], got, want)
	}
}

// checkSeek compares Seek and Rank with the reference, for numbers about positions and for very small and great ones.
func checkSeek(t *testing.T, l *postings.List, positions []int) {
	t.Helper()
	for _, p := range []int{math.MinInt, math.MinInt + 1, -1 << 32, -1 << 31, -17, -16, -2, -1, 0, 1, 2, most - 1, most, most + 1, 1 << 32, 1<<32 + 1, math.MaxInt - 1, math.MaxInt} {
		checkAround(t, l, positions, p)
	}
	for i, p := range positions {
		if i > 300 && i%41 != 0 && i%16 != 0 && i%16 != 15 && i < len(positions)-40 {
			continue
		}
		for _, p := range []int{p - 1, p, p + 1} {
			checkAround(t, l, positions, p)
		}
	}
}

func TestSeekExamples(t *testing.T) {
	l := built(t, []int{0, 4, 5})
	for p, want := range map[int]found{math.MinInt: {0, 0, true}, -1: {0, 0, true}, 0: {0, 0, true}, 1: {4, 1, true}, 3: {4, 1, true}, 4: {4, 1, true}, 5: {5, 2, true}, 6: {0, 3, false}, math.MaxInt: {0, 3, false}} {
		if pos, rank, ok := l.Seek(p); (found{pos, rank, ok}) != want {
			t.Errorf("Seek(%d) = %d, %d, %v; expected %v", p, pos, rank, ok, want)
		}
	}
	for p, want := range map[int]int{math.MinInt: 0, -1: 0, 0: 0, 1: 1, 4: 1, 5: 2, 6: 3, math.MaxInt: 3} {
		if got := l.Rank(p); got != want {
			t.Errorf("Rank(%d) = %d; expected %d", p, got, want)
		}
	}
	none := built(t, nil)
	for _, p := range []int{math.MinInt, -1, 0, 1, most, math.MaxInt} {
		if pos, rank, ok := none.Seek(p); pos != 0 || rank != 0 || ok || none.Rank(p) != 0 {
			t.Errorf("Seek(%d) of no positions = %d, %d, %v; Rank = %d", p, pos, rank, ok, none.Rank(p))
		}
	}
}

// All numbers up to one behind the last position are looked for.
func TestSeekOfAllNumbers(t *testing.T) {
	next := dice(173)
	for _, positions := range [][]int{run(0, 40), steps(3, 16, 7), steps(3, 17, 7), steps(0, 32, 20), steps(5, 33, 20), scattered(next, 48, 60), scattered(next, 130, 90)} {
		l := built(t, positions)
		for p := -2; p <= slices.Max(positions)+2; p++ {
			checkAround(t, l, positions, p)
		}
	}
}

// What is found does not depend on what was looked for before.
func TestSeekInAnyOrder(t *testing.T) {
	next := dice(174)
	positions := scattered(next, 300, 50)
	l := built(t, positions)
	for range 5000 {
		checkAround(t, l, positions, next(positions[299]+5)-2)
		i := next(300)
		if got, ok := l.At(i); got != positions[i] || !ok {
			t.Fatalf("At(%d) = %d, %v; expected %d", i, got, ok, positions[i])
		}
	}
}
