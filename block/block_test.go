package block_test

import (
	"bytes"
	"math"
	"slices"
	"testing"

	"corpora/api"
	"corpora/block"
)

// P15.1

// checkWidth compares Width, Cost with each width and Pack with the reference, and returns the encoding.
func checkWidth(t *testing.T, values []int) []byte {
	t.Helper()
	before := slices.Clone(values)
	want := errorOf(values)
	var width int
	var best []byte
	if want == api.OK {
		width, best = bestOf(values)
	}
	if got := block.Width(values); got != width {
		t.Fatalf("Width(%v) = %d; expected %d", values, got, width)
	}
	b, e := block.Pack(values)
	if e != want || !bytes.Equal(b, best) {
		t.Fatalf("Pack(%v) = %v, %d; expected %v, %d", values, b, e, best, want)
	}
	for w := range 32 {
		size := 0
		if want == api.OK {
			size = len(encoded(values, w))
		}
		if got, e := block.Cost(values, w); e != want || got != size {
			t.Fatalf("Cost(%v, %d) = %d, %d; expected %d, %d", values, w, got, e, size, want)
		}
	}
	if !slices.Equal(values, before) {
		t.Fatalf("the argument has changed from %v to %v", before, values)
	}
	return b
}

// checkBlock checks numbers that are valid, and that they are read back.
func checkBlock(t *testing.T, values []int) {
	t.Helper()
	b := checkWidth(t, values)
	got, e := block.Unpack(b)
	if e != api.OK || !slices.Equal(got, values) {
		t.Fatalf("Unpack(Pack(%v)) = %v, %d", values, got, e)
	}
	if len(values) > 0 {
		i := len(b) % len(values)
		if got, e := block.Get(b, i); e != api.OK || got != values[i] {
			t.Fatalf("Get(Pack(%v), %d) = %d, %d", values, i, got, e)
		}
	}
}

func TestPack(t *testing.T) {
	zeros := times(128, 0)
	for _, c := range []struct {
		values []int
		want   []byte
	}{
		{nil, []byte{0, 0, 0}}, {[]int{0}, []byte{1, 0, 0}}, {[]int{1, 2, 3}, []byte{3, 2, 0, 0b01101100}}, {[]int{0, 0, 0, 0, 0, 0, 0, 0, 1}, []byte{9, 0, 1, 9, 1}}, {[]int{1}, []byte{1, 1, 0, 0x80}}, {[]int{0, 0, 1}, []byte{3, 1, 0, 0b00100000}},
		{times(8, 1), []byte{8, 1, 0, 255}}, {times(9, 1), []byte{9, 1, 0, 255, 128}}, {[]int{255}, []byte{1, 8, 0, 255}}, {[]int{256}, []byte{1, 9, 0, 128, 0}}, {[]int{greatest}, []byte{1, 31, 0, 255, 255, 255, 254}},
		// One or two bytes for the number of numbers, for the first index, and for a difference.
		{times(127, 0), []byte{127, 0, 0}}, {zeros, []byte{128, 1, 0, 0}}, {with(zeros, 1, 126), []byte{128, 1, 0, 1, 127, 1}}, {with(zeros, 1, 127), []byte{128, 1, 0, 1, 128, 1, 1}}, {with(zeros, 5, 0, 127), []byte{128, 1, 0, 2, 1, 5, 127, 5}},
		// Two widths have the same cost, and the lesser one is taken.
		{with(times(8, 0), 1, 0, 1), []byte{8, 1, 0, 0xC0}}, {with(times(16, 0), 1, 2), []byte{16, 0, 1, 3, 1}}, {with(times(16, 3), 4, 2), []byte{16, 2, 1, 0xF3, 0xFF, 0xFF, 0xFF, 3, 1}},
	} {
		if got, e := block.Pack(c.values); e != api.OK || !bytes.Equal(got, c.want) {
			t.Errorf("Pack(%v) = %v, %d; expected %v", c.values, got, e, c.want)
		}
		if got := block.Width(c.values); byte(got) != c.want[len(uvarint(len(c.values)))] {
			t.Errorf("Width(%v) = %d; expected that of %v", c.values, got, c.want)
		}
		checkBlock(t, c.values)
	}
}

func TestCost(t *testing.T) {
	ones := times(128, 1)
	for _, c := range []struct {
		values      []int
		width, want int
	}{
		{[]int{1, 2, 3}, 0, 9}, {[]int{1, 2, 3}, 1, 8}, {[]int{1, 2, 3}, 2, 4}, {[]int{1, 2, 3}, 31, 15}, {nil, 0, 3}, {nil, 31, 3}, {[]int{0}, 31, 7}, {times(9, 0), 1, 5},
		// One or two bytes for the number of exceptions.
		{ones[1:], 0, 3 + 254}, {ones, 0, 5 + 256}, {with(ones, 0, 0), 0, 4 + 254}, {ones, 1, 4 + 16}, {times(128, greatest), 31, 4 + 496}, {times(128, greatest), 30, 5 + 480 + 256}, {times(128, greatest), 0, 5 + 128 + 5*128},
		// One to five bytes for what an exception has above the width.
		{[]int{127}, 0, 5}, {[]int{128}, 0, 6}, {[]int{128}, 1, 6}, {[]int{256}, 1, 7}, {[]int{1<<14 - 1}, 0, 6}, {[]int{1 << 14}, 0, 7}, {[]int{1<<21 - 1}, 0, 7}, {[]int{1 << 21}, 0, 8}, {[]int{1<<28 - 1}, 0, 8}, {[]int{1 << 28}, 0, 9}, {[]int{greatest}, 0, 9}, {[]int{greatest}, 3, 9}, {[]int{greatest}, 4, 9}, {[]int{greatest}, 2, 10},
	} {
		if got, e := block.Cost(c.values, c.width); e != api.OK || got != c.want {
			t.Errorf("Cost of %d numbers, %v.., with the width %d = %d, %d; expected %d", len(c.values), c.values[:min(len(c.values), 4)], c.width, got, e, c.want)
		}
		checkBlock(t, c.values)
	}
}

func TestAllShortLists(t *testing.T) {
	for _, values := range lists(4, 0, 1, 2, 3, 4, 8, 1<<15, greatest) {
		checkBlock(t, values)
	}
	for _, values := range lists(9, 0, 3) {
		checkBlock(t, values)
	}
}

// Numbers about each power of two, alone and in the midst of ones with fewer bits.
func TestBlocksOfPowers(t *testing.T) {
	for w := range 32 {
		for _, v := range []int{1<<w - 1, min(1<<w, greatest), min(1<<w+1, greatest)} {
			for _, n := range []int{1, 2, 7, 8, 9, 16, 128} {
				checkBlock(t, times(n, v))
				checkBlock(t, with(times(n, 1), v, n/2))
				checkBlock(t, with(times(n, v), greatest, n-1))
				checkBlock(t, with(times(n, v), 0, 0))
			}
		}
	}
}

func TestPlacesOfExceptions(t *testing.T) {
	for _, n := range []int{9, 64, 127, 128} {
		zeros, threes := times(n, 0), times(n, 3)
		for i := range n {
			checkBlock(t, with(zeros, 1, i))
			checkBlock(t, with(threes, greatest, i))
			checkBlock(t, with(zeros, 1<<(i%31), i, n-1))
			checkBlock(t, with(threes, 900, i/2, i, n-1-i))
			checkBlock(t, append(times(n-i, 1), times(i, 200)...))
		}
	}
}

func TestScatteredBlocks(t *testing.T) {
	next := dice(151)
	for range 700 {
		checkBlock(t, scattered(next, next(129), next(20), 1+next(30)))
	}
	for n := range 129 {
		checkBlock(t, scattered(next, n, next(32), 20))
	}
}

func TestErrorsOfNumbers(t *testing.T) {
	bad := []int{-1, greatest + 1, -greatest - 1, 1 << 32, 1<<32 + 1, math.MinInt, math.MaxInt}
	for _, n := range []int{1, 5, 127, 128, 129, 130, 1 << 16} {
		checkWidth(t, times(n, 0))
		checkWidth(t, times(n, greatest))
		for _, v := range bad {
			checkWidth(t, times(n, v))
			for _, i := range []int{0, n / 2, n - 1} {
				checkWidth(t, with(times(n, 6), v, i))
			}
		}
	}
}

func TestErrorsOfCost(t *testing.T) {
	for _, c := range []struct {
		values []int
		want   api.Errno
	}{
		{nil, api.ErrArg}, {[]int{1, 2}, api.ErrArg}, {times(128, greatest), api.ErrArg}, {[]int{1, -1}, api.ErrRange}, {[]int{greatest + 1}, api.ErrRange}, {times(128, -1), api.ErrRange}, {times(129, 0), api.ErrLimit}, {times(129, -1), api.ErrLimit},
	} {
		for _, width := range []int{-1, -31, 32, 33, 63, 64, 1 << 32, math.MinInt, math.MaxInt} {
			if got, e := block.Cost(c.values, width); e != c.want || got != 0 {
				t.Errorf("Cost of %d numbers, %v.., with the width %d = %d, %d; expected %d", len(c.values), c.values[:min(len(c.values), 2)], width, got, e, c.want)
			}
		}
	}
}

func TestBlocksAreNewMemory(t *testing.T) {
	values := roomy([]int{1, 2, 3}, 8)
	first, _ := block.Pack(values)
	second, _ := block.Pack(values)
	for i := range first[:cap(first)] {
		first[:cap(first)][i] = 9
	}
	if !bytes.Equal(second, []byte{3, 2, 0, 0x6C}) {
		t.Error("the encodings share memory:", second)
	}
	b := roomy(second, 8)
	one, _ := block.Unpack(b)
	other, _ := block.Unpack(b)
	for i := range one[:cap(one)] {
		one[:cap(one)][i] = 9
	}
	if i, e := block.Get(b, 1); i != 2 || e != api.OK || !slices.Equal(other, []int{1, 2, 3}) {
		t.Error("the numbers share memory:", i, e, other)
	}
	if !slices.Equal(values[:11], []int{1, 2, 3, 7, 7, 7, 7, 7, 7, 7, 7}) || !bytes.Equal(b[:12], []byte{3, 2, 0, 0x6C, 7, 7, 7, 7, 7, 7, 7, 7}) {
		t.Error("the arguments have changed:", values[:11], b[:12])
	}
}

func FuzzBlock(f *testing.F) {
	f.Add([]byte{3, 2, 0, 0x6C}, []byte{0, 1, 2, 3}, 2)
	f.Add([]byte{9, 0, 1, 9, 1}, []byte{7, 0, 31, 1, 255, 4}, 8)
	f.Fuzz(func(t *testing.T, b, numbers []byte, i int) {
		checkBytes(t, b, i)
		values := each(min(len(numbers), 256)/2, func(n int) int {
			return int(numbers[2*n]) << (numbers[2*n+1] % 24)
		})
		if len(values) > 0 {
			values[max(0, min(i, len(values)-1))] %= 1 << 20
		}
		checkBlock(t, values)
		packed, _ := block.Pack(values)
		checkBytes(t, packed, i)
		if len(b) > 0 {
			packed[max(0, min(i, len(packed)-1))] ^= b[0]
			checkBytes(t, packed, i)
		}
	})
}
