package huffman_test

import (
	"math"
	"slices"
	"testing"

	"corpora/api"
	"corpora/huffman"
)

// P14.1

// checkLengths compares Lengths of counts that are right with the reference, and returns them.
func checkLengths(t *testing.T, counts []int, limit int) []int {
	t.Helper()
	before := slices.Clone(counts)
	got, e := huffman.Lengths(counts, limit)
	if want := lengthsOf(counts, limit); e != api.OK || !slices.Equal(got, want) {
		t.Fatalf("Lengths(%v, %d) = %v, %d; expected %v", counts, limit, got, e, want)
	}
	if !slices.Equal(counts, before) {
		t.Fatalf("the argument has changed from %v to %v", before, counts)
	}
	return got
}

func TestLengths(t *testing.T) {
	for _, c := range []struct {
		counts []int
		limit  int
		want   []int
	}{
		{[]int{5, 2, 1, 1}, 15, []int{1, 2, 3, 3}}, {[]int{5, 2, 1, 1}, 2, []int{2, 2, 2, 2}}, {[]int{5, 2, 1, 1}, 3, []int{1, 2, 3, 3}},
		{nil, 1, nil}, {nil, 15, nil}, {[]int{0}, 1, []int{0}}, {[]int{0, 0, 0}, 15, []int{0, 0, 0}},
		{[]int{1}, 1, []int{1}}, {[]int{1}, 15, []int{1}}, {[]int{0, 4096, 0}, 7, []int{0, 1, 0}}, {[]int{9, 0}, 2, []int{1, 0}},
		{[]int{1, 1}, 1, []int{1, 1}}, {[]int{1, 0, 4096}, 1, []int{1, 0, 1}}, {[]int{1, 0, 4096}, 15, []int{1, 0, 1}},
		// Of equal weights, the leaves come first, and among them the symbol before.
		{[]int{1, 1, 1}, 2, []int{2, 2, 1}}, {[]int{1, 1, 1}, 15, []int{2, 2, 1}}, {[]int{2, 1, 1, 2}, 3, []int{2, 2, 2, 2}}, {[]int{2, 1, 1}, 15, []int{1, 2, 2}},
		{[]int{1, 1, 1, 1, 1}, 3, []int{3, 3, 2, 2, 2}}, {[]int{3, 3, 3, 3, 3, 3}, 15, []int{3, 3, 3, 3, 2, 2}}, {[]int{1, 1, 2, 2, 4}, 15, []int{3, 3, 2, 2, 2}},
		{[]int{1, 1, 2, 4, 8}, 15, []int{4, 4, 3, 2, 1}}, {[]int{1, 1, 2, 4, 8}, 3, []int{3, 3, 3, 3, 1}}, {[]int{8, 0, 4, 0, 2, 1, 1}, 15, []int{1, 0, 2, 0, 3, 4, 4}},
	} {
		if got, e := huffman.Lengths(c.counts, c.limit); e != api.OK || !slices.Equal(got, c.want) {
			t.Errorf("Lengths(%v, %d) = %v, %d; expected %v", c.counts, c.limit, got, e, c.want)
		}
		checkLengths(t, c.counts, c.limit)
	}
}

func TestLengthsOfFullLists(t *testing.T) {
	next := dice(141)
	for limit := 10; limit <= 15; limit++ {
		for i, counts := range [][]int{
			times(1024, 1), times(1024, 4096), each(1024, func(i int) int { return i + 1 }), each(1024, func(i int) int { return 4096 - 4*i }), each(1024, func(i int) int { return i }), skewed(next, 1024, false), skewed(next, 1024, true),
		} {
			lengths := checkLengths(t, counts, limit)
			if i < 2 && !slices.Equal(lengths, times(1024, 10)) {
				t.Errorf("limit %d: the lengths of 1024 equal counts are not all 10", limit)
			}
		}
	}
	// 2^limit codes of at most limit bits have all of them.
	for limit := 1; limit <= 10; limit++ {
		counts := skewed(next, 1<<limit, false)
		for _, list := range [][]int{counts, spread(1024, counts)} {
			for symbol, n := range checkLengths(t, list, limit) {
				if n != 0 && n != limit || (n == 0) != (list[symbol] == 0) {
					t.Errorf("limit %d: the length of symbol %d is %d", limit, symbol, n)
				}
			}
		}
	}
}

func checkWrongCounts(t *testing.T, want api.Errno, counts []int, limit int) {
	t.Helper()
	if got, e := huffman.Lengths(counts, limit); len(got) != 0 || e != want {
		t.Errorf("Lengths of %d counts, %v.., %d: %d lengths, %d; expected %d", len(counts), counts[:min(len(counts), 8)], limit, len(got), e, want)
	}
}

func TestErrorsOfLengths(t *testing.T) {
	for _, limit := range []int{0, -1, 16, 17, 63, 64, math.MinInt, math.MaxInt} {
		for _, counts := range [][]int{nil, {1}, {1, 1}, {-1}, times(1025, 1)} {
			checkWrongCounts(t, api.ErrArg, counts, limit)
		}
	}
	for limit := 1; limit <= 15; limit++ {
		for _, n := range []int{1025, 1026, 1 << 16} {
			checkWrongCounts(t, api.ErrLimit, times(n, 0), limit)
			checkWrongCounts(t, api.ErrLimit, times(n, 1), limit)
			checkWrongCounts(t, api.ErrLimit, times(n, -1), limit)
		}
		for _, bad := range []int{-1, -4096, 4097, 1 << 32, math.MinInt, math.MaxInt} {
			for place := range 4 {
				checkWrongCounts(t, api.ErrRange, slices.Insert([]int{1, 0, 1}, place, bad), limit)
				checkWrongCounts(t, api.ErrRange, slices.Insert(times(1023, 1), 341*place, bad), limit)
			}
		}
	}
	for limit := 1; limit < 10; limit++ {
		for _, counts := range [][]int{times(1<<limit+1, 1), times(1<<limit+1, 4096), times(1024, 1), spread(1024, times(1<<limit+1, 3))} {
			checkWrongCounts(t, api.ErrLimit, counts, limit)
		}
		checkLengths(t, spread(1024, times(1<<limit, 3)), limit)
	}
}

func TestLengthsAreNewMemory(t *testing.T) {
	counts := roomy([]int{5, 2, 1, 1}, 8)
	first, _ := huffman.Lengths(counts, 15)
	second, _ := huffman.Lengths(counts, 15)
	if !slices.Equal(counts[:12], []int{5, 2, 1, 1, 7, 7, 7, 7, 7, 7, 7, 7}) {
		t.Errorf("the argument is %v now", counts[:12])
	}
	for i := range first[:cap(first)] {
		first[:cap(first)][i] = 9
	}
	counts[0] = 8
	if !slices.Equal(second, []int{1, 2, 3, 3}) || !slices.Equal(counts, []int{8, 2, 1, 1}) {
		t.Error("the lengths share memory:", second, counts)
	}
}

// P14.2

// checkBest checks that the lengths of counts are those of the reference and cost the least.
func checkBest(t *testing.T, counts []int, limit int) {
	t.Helper()
	lengths := checkLengths(t, counts, limit)
	if got, want := cost(counts, lengths), leastCost(counts, limit); got != want {
		t.Fatalf("the lengths %v of %v with the limit %d cost %d; expected %d", lengths, counts, limit, got, want)
	}
	present := len(leavesOf(counts))
	if used := wordsUsed(lengths); present >= 2 && used != 1<<15 || present == 1 && used != 1<<14 || present == 0 && used != 0 {
		t.Fatalf("the lengths %v of %v with the limit %d use %d words", lengths, counts, limit, used)
	}
	for symbol, n := range lengths {
		if n > limit || (n == 0) != (counts[symbol] == 0) {
			t.Fatalf("the length of symbol %d of %v with the limit %d is %d", symbol, counts, limit, n)
		}
	}
}

func TestLengthsOfAllShortLists(t *testing.T) {
	for _, counts := range append(lists(5, 0, 1, 2, 3), lists(4, 0, 1, 4, 5, 4096)...) {
		for limit := 1; limit <= 6; limit++ {
			if len(leavesOf(counts)) <= 1<<limit {
				checkBest(t, counts, limit)
			}
		}
	}
	for _, counts := range lists(7, 1, 2) {
		checkBest(t, counts, 3)
		checkBest(t, counts, 5)
	}
}

func TestLengthsOfSkewedCounts(t *testing.T) {
	fibonacci := []int{1, 1}
	for next := 2; next <= 4096; next = fibonacci[len(fibonacci)-1] + fibonacci[len(fibonacci)-2] {
		fibonacci = append(fibonacci, next)
	}
	powers := each(13, func(i int) int { return 1 << i })
	for _, counts := range [][]int{fibonacci, powers} {
		backwards := slices.Clone(counts)
		slices.Reverse(backwards)
		for limit := 5; limit <= 15; limit++ {
			checkBest(t, counts, limit)
			checkBest(t, backwards, limit)
			checkBest(t, spread(60, counts), limit)
		}
	}
	if got := checkLengths(t, powers, 15); !slices.Equal(got, []int{12, 12, 11, 10, 9, 8, 7, 6, 5, 4, 3, 2, 1}) {
		t.Error("the lengths of powers are", got)
	}
	if got := checkLengths(t, fibonacci, 15); slices.Max(got) != 15 || len(fibonacci) != 18 {
		t.Error("the lengths of Fibonacci's numbers are", got)
	}
}

func TestLengthsOfScatteredCounts(t *testing.T) {
	next := dice(142)
	for range 400 {
		limit := 1 + next(9)
		checkBest(t, skewed(next, next(1<<min(limit, 6)+1), next(2) == 0), limit)
	}
	for range 6 {
		checkBest(t, skewed(next, 40, false), 15)
		checkBest(t, skewed(next, 1024, true), 11)
	}
}
