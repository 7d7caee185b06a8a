package block_test

import (
	"bytes"
	"math"
	"slices"
	"testing"

	"corpora/api"
	"corpora/block"
)

// P15.2

// checkBytes compares Unpack of any bytes, and Get with an index, with the reference.
func checkBytes(t *testing.T, b []byte, i int) {
	t.Helper()
	before := slices.Clone(b)
	values, ok := decoded(b)
	want, number, of := api.OK, 0, api.ErrRange
	switch {
	case !ok:
		values, want, of = nil, api.ErrCorrupt, api.ErrCorrupt
	case i >= 0 && i < len(values):
		number, of = values[i], api.OK
	}
	if got, e := block.Unpack(b); e != want || !slices.Equal(got, values) {
		t.Fatalf("Unpack(%v) = %v, %d; expected %v, %d", b, got, e, values, want)
	}
	if got, e := block.Get(b, i); e != of || got != number {
		t.Fatalf("Get(%v, %d) = %d, %d; expected %d, %d", b, i, got, e, number, of)
	}
	if !bytes.Equal(b, before) {
		t.Fatalf("the argument has changed from %v to %v", before, b)
	}
}

// checkCorrupt checks that bytes are no encoding, whatever the index.
func checkCorrupt(t *testing.T, why string, b []byte) {
	t.Helper()
	if got, e := block.Unpack(b); e != api.ErrCorrupt || len(got) != 0 {
		t.Errorf("%s: Unpack(%v) = %v, %d; expected ErrCorrupt", why, b, got, e)
	}
	for _, i := range []int{-1, 0, 1, 128, math.MinInt, math.MaxInt} {
		if got, e := block.Get(b, i); e != api.ErrCorrupt || got != 0 {
			t.Errorf("%s: Get(%v, %d) = %d, %d; expected ErrCorrupt", why, b, i, got, e)
		}
	}
	if _, ok := decoded(b); ok {
		t.Errorf("%s: the reference reads %v", why, b)
	}
}

// samples returns numbers whose encodings have all parts in all sizes.
func samples() [][]int {
	zeros := times(128, 0)
	return [][]int{
		nil, {0}, {1}, {1, 2, 3}, {greatest}, {0, 0, 0, 0, 0, 0, 0, 0, 1}, {3, 3, 3, 3, 3, 3, 3, 3, 900}, times(127, 0), zeros, with(zeros, 1, 127), with(zeros, greatest, 3, 4, 127), with(times(128, 1), 300, 0, 126),
		with(times(40, 5), 1<<20, 39), each(30, func(i int) int { return i }), with(each(128, func(i int) int { return i % 16 }), greatest, 7, 70, 71), scattered(dice(152), 64, 9, 12),
	}
}

func TestUnpack(t *testing.T) {
	for _, values := range samples() {
		checkBlock(t, values)
		b, _ := block.Pack(values)
		for i, v := range values {
			if got, e := block.Get(b, i); e != api.OK || got != v {
				t.Errorf("Get(Pack(%v), %d) = %d, %d", values, i, got, e)
			}
		}
		for _, i := range []int{-1, -2, len(values), len(values) + 1, 128, 1 << 32, math.MinInt, math.MaxInt} {
			if got, e := block.Get(b, i); e != api.ErrRange || got != 0 {
				t.Errorf("Get(Pack(%v), %d) = %d, %d; expected ErrRange", values, i, got, e)
			}
		}
	}
}

func TestCorruptBytes(t *testing.T) {
	long := bytes.Repeat([]byte{255}, 9)
	for _, c := range []struct {
		why string
		all [][]byte
	}{
		{"a part is missing", [][]byte{nil, {0}, {0, 0}, {1, 1, 0}, {128}, {128, 1}, {128, 1, 0}, {3, 31, 0, 0}, {9, 0, 1}, {9, 0, 1, 9}, {9, 0, 2, 8, 1}, {9, 0, 2, 8, 1, 1}, {9, 0, 1, 128}, {9, 0, 1, 9, 128}}},
		{"something follows", [][]byte{{0, 0, 0, 0}, {1, 1, 0, 128, 0}, {9, 1, 0, 0, 128, 0}, {9, 0, 1, 9, 1, 0}, {9, 0, 1, 8, 1, 1, 1}, {3, 2, 0, 0x6C, 0xFF}}},
		{"too many numbers", [][]byte{{129, 1, 0, 0}, {130, 1, 0, 0}, {255, 127, 0, 0}, append(slices.Clone(long), 1, 0, 0), {128, 128, 128, 128, 16, 0, 0}, {129, 128, 128, 128, 16, 0, 0}}},
		{"too great a width", [][]byte{{0, 32, 0}, {1, 32, 0, 0, 0, 0, 1}, {1, 63, 0, 0, 0, 0, 0, 0, 0, 0, 2}, {1, 64, 0, 0, 0, 0, 0, 0, 0, 0, 1}, slices.Concat([]byte{0}, long, []byte{1, 0}), slices.Concat([]byte{1}, long, []byte{1, 0, 1})}},
		{"more exceptions than numbers", [][]byte{{0, 0, 1}, {0, 0, 1, 1, 1}, {1, 0, 2, 1, 1, 1, 1}, slices.Concat([]byte{9, 0}, long, []byte{1, 9, 1})}},
		{"an exception behind the numbers", [][]byte{{9, 0, 1, 10, 1}, {9, 0, 1, 128, 1, 1}, {9, 0, 2, 1, 1, 9, 1}, slices.Concat([]byte{9, 0, 1}, long, []byte{1, 1}), {9, 0, 1, 137, 128, 128, 128, 16, 1}}},
		{"an exception that is not behind the one before", [][]byte{{9, 0, 1, 0, 1}, {20, 0, 2, 9, 1, 0, 2}, {9, 0, 1, 0, 0}}},
		{"an exception that is none", [][]byte{{9, 0, 1, 9, 0}, {40, 0, 2, 9, 0, 9, 1}, {1, 0, 1, 1, 0}, {128, 1, 0, 1, 1, 0}}},
		{"too great a number", [][]byte{{9, 0, 1, 9, 128, 128, 128, 128, 8}, {9, 0, 1, 9, 255, 255, 255, 255, 15}, slices.Concat([]byte{9, 0, 1, 9}, long, []byte{1}), slices.Concat([]byte{1, 2, 1, 0, 1}, long, []byte{1}), {1, 3, 1, 0, 1, 129, 128, 128, 128, 1}}},
		{"a number that is longer than need be", [][]byte{{128, 0, 0, 0}, {131, 0, 2, 0, 0x6C}, {3, 130, 0, 0, 0x6C}, {3, 2, 128, 0, 0x6C}, {9, 0, 129, 0, 9, 1}, {9, 0, 1, 137, 0, 1}, {9, 0, 1, 9, 129, 0}, {128, 129, 0, 0, 0}}},
		{"bits behind the last number", [][]byte{{1, 1, 0, 192}, {1, 1, 0, 129}, {3, 2, 0, 0x6D}, {3, 2, 0, 0x6E}, {9, 1, 0, 255, 129}, {1, 31, 0, 255, 255, 255, 255}}},
		{"another width than the best one", [][]byte{{0, 1, 0}, {0, 31, 0}, {1, 1, 0, 0}, {1, 2, 0, 64}, {1, 0, 1, 1, 1}, {3, 0, 3, 1, 1, 1, 2, 1, 3}, {3, 1, 2, 0xA0, 2, 1, 1, 1}, {3, 3, 0, 0x29, 0x80}, {9, 1, 0, 0, 128}, {128, 1, 1, 0, 0, 0, 0, 0, 0, 0, 0, 0, 0, 0, 0, 0, 0, 0, 0, 0, 0}}},
	} {
		for _, b := range c.all {
			checkCorrupt(t, c.why, b)
		}
	}
}

// Only the encoding with the best width is accepted.
func TestOtherWidths(t *testing.T) {
	for _, values := range append(samples(), lists(3, 0, 1, 6, 130, greatest)...) {
		best := block.Width(values)
		for w := range 32 {
			if w != best {
				checkCorrupt(t, "another width", encoded(values, w))
			}
		}
	}
}

func TestAllShortBytes(t *testing.T) {
	for first := range 256 {
		checkBytes(t, []byte{byte(first)}, 0)
		for second := range 256 {
			checkBytes(t, []byte{byte(first), byte(second)}, 0)
		}
	}
	for _, b := range lists[byte](6, 0, 1, 2, 9, 128, 129) {
		checkBytes(t, b, len(b)-2)
	}
	for n := range byte(9) {
		for width := range byte(9) {
			for last := range 256 {
				checkBytes(t, []byte{n, width, 0, byte(last)}, int(n)-1)
				checkBytes(t, []byte{n, width, 1, byte(last), 1, 1}, 0)
				checkBytes(t, []byte{n, 0, 1, width, byte(last)}, 0)
			}
		}
	}
}

// Each encoding is cut, made longer, and changed in one bit or byte at each place.
func TestChangedBytes(t *testing.T) {
	for _, values := range samples() {
		b, _ := block.Pack(values)
		for i := range b {
			checkCorrupt(t, "cut", b[:i])
			checkBytes(t, b[i+1:], 0)
			checkBytes(t, slices.Delete(slices.Clone(b), i, i+1), 0)
			for _, x := range []byte{0, 1, 2, 31, 32, 127, 128, 129, 255} {
				checkBytes(t, slices.Insert(slices.Clone(b), i, x), 1)
			}
			for change := 1; change < 256; change++ {
				if len(b) > 40 && change&(change-1) != 0 {
					continue
				}
				other := slices.Clone(b)
				other[i] ^= byte(change)
				checkBytes(t, other, i)
			}
		}
		for x := range 256 {
			checkCorrupt(t, "longer", append(slices.Clone(b), byte(x)))
		}
	}
}

func TestScatteredBytes(t *testing.T) {
	next := dice(153)
	for range 20000 {
		b := make([]byte, next(20))
		for i := range b {
			b[i] = byte(next(2 << next(8)))
		}
		checkBytes(t, b, next(10)-1)
	}
}
