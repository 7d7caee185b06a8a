package postings_test

import (
	"bytes"
	"slices"
	"testing"

	"corpora/api"
	"corpora/checksum"
	"corpora/postings"
)

// P17.3

// joined returns bytes one after the other.
func joined(parts ...[]byte) []byte { return slices.Concat(parts...) }

func TestEncode(t *testing.T) {
	ones := bytes.Repeat([]byte{255}, 8)
	for _, c := range []struct {
		positions []int
		want      []byte
	}{
		{nil, []byte{0, 0}}, {[]int{0, 4, 5}, []byte{3, 7, 0b10110010}}, {[]int{0}, []byte{1, 1, 128}}, {[]int{1}, []byte{1, 4, 0x40}}, {[]int{1, 2}, []byte{2, 5, 0x48}}, {run(0, 7), []byte{7, 7, 0b11111110}}, {run(0, 8), []byte{8, 8, 255}}, {run(0, 9), []byte{9, 9, 255, 128}},
		// The greatest gaps.
		{[]int{most}, []byte{1, 42, 4, 0, 0, 0, 0, 0}}, {[]int{most - 1}, []byte{1, 39, 0x0F, 255, 255, 255, 0xFE}}, {[]int{0, most}, []byte{2, 40, 0x87, 255, 255, 255, 255}}, {[]int{most - 1, most}, []byte{2, 40, 0x0F, 255, 255, 255, 255}},
		// There is an entry for the index 16, but not for 0, nor for a number of positions.
		{run(0, 15), []byte{15, 15, 255, 254}}, {run(0, 16), []byte{16, 16, 255, 255}}, {run(0, 17), []byte{17, 17, 255, 255, 128, 16, 16}}, {run(0, 32), []byte{32, 32, 255, 255, 255, 255, 16, 16}}, {run(0, 33), []byte{33, 33, 255, 255, 255, 255, 128, 16, 16, 16, 16}}, {run(0, 64), joined([]byte{64, 64}, ones, []byte{16, 16, 16, 16, 16, 16})},
		// The gaps of the indices 0 to 15 count, and the positions 16 and 0.
		{run(100, 17), []byte{17, 27, 0x3C, 0xBF, 0xFF, 0xE0, 16, 26}}, {append(run(0, 16), 1000), []byte{17, 32, 255, 255, 0x15, 0xD9, 0xE8, 7, 16}}, {append(run(0, 17), 1017), []byte{18, 33, 255, 255, 0x8A, 0xF4, 0x80, 16, 16}},
		{steps(1, 17, 2), joined([]byte{17, 68}, bytes.Repeat([]byte{0x44}, 8), []byte{0x40, 32, 64})}, {steps(8, 33, 9), joined([]byte{33, 0x88, 2}, bytes.Repeat([]byte{0x21}, 33), []byte{0x90, 1, 0x80, 1, 0x90, 1, 0x80, 1})},
		{append(run(0, 16), most), []byte{17, 55, 255, 255, 0x0F, 255, 255, 255, 0xE0, 255, 255, 255, 255, 7, 16}},
	} {
		want := checksum.Seal(c.want)
		if got := built(t, c.positions).Encode(); !bytes.Equal(got, want) {
			t.Errorf("Encode of %v = %v; expected %v", c.positions, got, want)
		}
		l, e := postings.Decode(want)
		if e != api.OK || !slices.Equal(l.All(), c.positions) || !bytes.Equal(l.Encode(), want) {
			t.Errorf("Decode of the encoding of %v: %d", c.positions, e)
		}
	}
	if got := built(t, nil).Encode(); len(got) != 6 {
		t.Errorf("Encode of no positions = %v", got)
	}
}

// Each entry tells what is between two indices, and not what is before them.
func TestSkipsAreDifferences(t *testing.T) {
	var positions []int
	for i := range 5 {
		positions = append(positions, steps(10000*i, 16, 1<<i)...)
	}
	b := built(t, append(positions, 90000)).Encode()
	// The gaps in a part need 1, 4, 5, 8 or 9 bits, and the gap in front of a part 20.
	want := joined(uvarint(10000), []byte{16}, uvarint(10000), []byte{80}, uvarint(10000), []byte{95}, uvarint(10000), uvarint(140), uvarint(50000), uvarint(155))
	if got := b[len(b)-4-len(want) : len(b)-4]; !bytes.Equal(got, want) {
		t.Errorf("the skip table is %v; expected %v", got, want)
	}
}
