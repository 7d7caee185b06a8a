package tokens_test

import (
	"bytes"
	"math"
	"slices"
	"testing"

	"corpora/api"
	"corpora/checksum"
	"corpora/tokens"
)

// P16.1

// built returns the stream of numbers.
func built(t *testing.T, numbers []int) *tokens.Stream {
	t.Helper()
	s, e := tokens.Build(numbers)
	if e != api.OK || s == nil {
		t.Fatalf("Build of %d numbers, %v.. = %v, %d", len(numbers), numbers[:min(len(numbers), 8)], s != nil, e)
	}
	return s
}

// checkSlice compares Slice with the numbers of a stream.
func checkSlice(t *testing.T, s *tokens.Stream, numbers []int, from, to int) {
	t.Helper()
	var want []int
	right := 0 <= from && from <= to && to <= len(numbers)
	if right {
		want = numbers[from:to]
	}
	if got, ok := s.Slice(from, to); ok != right || !slices.Equal(got, want) || !ok && got != nil {
		t.Fatalf("Slice(%d, %d) of %d numbers = %v, %v; expected %v, %v", from, to, len(numbers), got, ok, want, right)
	}
}

// checkAccess compares what a stream tells about its numbers with the numbers.
func checkAccess(t *testing.T, s *tokens.Stream, numbers []int) {
	t.Helper()
	size := len(numbers)
	if s.Len() != size {
		t.Fatalf("Len of %d numbers = %d", size, s.Len())
	}
	for i, want := range numbers {
		if got, ok := s.At(i); got != want || !ok {
			t.Fatalf("At(%d) of %d numbers = %d, %v; expected %d", i, size, got, ok, want)
		}
	}
	for _, i := range []int{-1, -2, -63, -64, -65, size, size + 1, size + 63, size + 64, 1 << 32, math.MinInt, math.MaxInt} {
		if got, ok := s.At(i); got != 0 || ok {
			t.Fatalf("At(%d) of %d numbers = %d, %v", i, size, got, ok)
		}
	}
	places := []int{math.MinInt, -64, -1, 0, 1, 63, 64, 65, 128, size / 3, size / 2, size - 65, size - 64, size - 63, size - 1, size, size + 1, size + 64, math.MaxInt}
	for _, from := range places {
		for _, to := range places {
			checkSlice(t, s, numbers, from, to)
		}
	}
}

// checkStream compares all that a stream tells with the reference, and also when its bytes have been decoded.
func checkStream(t *testing.T, numbers []int) {
	t.Helper()
	kind, best := bestOf(numbers)
	want := checksum.Seal(best)
	s := built(t, numbers)
	read, e := tokens.Decode(want)
	if e != api.OK {
		t.Fatalf("Decode of the encoding of %d numbers, %v..: %d", len(numbers), numbers[:min(len(numbers), 8)], e)
	}
	for i, s := range []*tokens.Stream{s, read} {
		if s.Kind() != kind {
			t.Fatalf("%d: Kind of %v = %d", i, numbers, s.Kind())
		}
		if got := s.Encode(); !bytes.Equal(got, want) {
			t.Fatalf("%d: Encode of %v = %v; expected %v", i, numbers, got, want)
		}
		checkAccess(t, s, numbers)
	}
}

func TestBuild(t *testing.T) {
	if tokens.BlockSize != 64 {
		t.Errorf("BlockSize = %d", tokens.BlockSize)
	}
	for _, numbers := range samples() {
		checkStream(t, numbers)
	}
}

func TestAllSizes(t *testing.T) {
	next := dice(162)
	for n := range 330 {
		checkStream(t, scattered(next, n, 1+next(1023), next(9)))
	}
}

func TestAllShortLists(t *testing.T) {
	for _, numbers := range lists(4, 0, 1, 2, 5, 63, 127, 1023) {
		checkStream(t, numbers)
	}
}

// Slice cuts at each place within a block and between blocks.
func TestAllSlices(t *testing.T) {
	for _, numbers := range [][]int{nil, {3}, each(66, func(i int) int { return i }), cycle(131, 0, 2, 2, 5, 0), each(192, func(i int) int { return i * 7 % 500 })} {
		s := built(t, numbers)
		for from := -1; from <= len(numbers)+1; from++ {
			for to := -1; to <= len(numbers)+1; to++ {
				checkSlice(t, s, numbers, from, to)
			}
		}
	}
}

func TestErrorsOfNumbers(t *testing.T) {
	check := func(numbers []int) {
		t.Helper()
		want := errorOf(numbers)
		if s, e := tokens.Build(numbers); e != want || (s != nil) != (want == api.OK) {
			t.Errorf("Build of %d numbers from %v to %v = %v, %d; expected %d", len(numbers), slices.Min(numbers), slices.Max(numbers), s != nil, e, want)
		}
	}
	for _, n := range []int{1, 2, 64, 65, 4095, 4096, 4097, 4098, 8192, 1 << 17} {
		check(times(n, 0))
		check(times(n, 1023))
		for _, v := range []int{-1, 1024, 1025, 4096, -1023, 1<<31 - 1, 1 << 31, 1 << 32, 1<<32 + 1, math.MinInt, math.MaxInt} {
			check(times(n, v))
			for _, i := range []int{0, n / 2, n - 1} {
				check(with(times(n, 6), v, i))
			}
		}
	}
}

func TestStreamsAreNewMemory(t *testing.T) {
	for _, numbers := range [][]int{{1, 2, 3}, cycle(130, 0, 2)} {
		want := built(t, numbers).Encode()
		given := roomy(numbers, 70)
		held := slices.Clone(given[:cap(given)])
		s, other := built(t, given), built(t, given)
		if !slices.Equal(given[:cap(given)], held) {
			t.Fatalf("the argument is %v now", given[:cap(given)])
		}
		overwrite(given)
		first, _ := s.Slice(0, len(numbers))
		second, _ := s.Slice(1, len(numbers))
		overwrite(first)
		if !slices.Equal(second, numbers[1:]) {
			t.Fatalf("two slices share memory: %v", second)
		}
		overwrite(second)
		overwrite(s.Encode())
		for _, s := range []*tokens.Stream{s, other} {
			checkAccess(t, s, numbers)
			if got := s.Encode(); !bytes.Equal(got, want) {
				t.Fatalf("Encode = %v; expected %v", got, want)
			}
		}
	}
}

// overwrite changes a list and its spare elements.
func overwrite[T int | byte](list []T) {
	for i := range list[:cap(list)] {
		list[:cap(list)][i] = 9
	}
}

func TestStreamsAreIndependent(t *testing.T) {
	a, b, c := cycle(130, 0, 2), cycle(130, 5, 4, 3), []int{8}
	x, y := built(t, a), built(t, b)
	checkAccess(t, x, a)
	z := built(t, c)
	checkAccess(t, y, b)
	checkAccess(t, x, a)
	checkAccess(t, z, c)
}
