package tokens_test

import (
	"bytes"
	"slices"
	"testing"

	"corpora/checksum"
)

// P16.2

// joined returns bytes one after the other.
func joined(parts ...[]byte) []byte { return slices.Concat(parts...) }

func TestEncode(t *testing.T) {
	fives := bytes.Repeat([]byte{0x55}, 8)
	zeros := []byte{3, 64, 0, 0} // 64 of them, packed
	for _, c := range []struct {
		numbers []int
		kind    int
		want    []byte
	}{
		{nil, 0, []byte{0, 0}}, {[]int{0}, 0, []byte{1, 0, 3, 1, 0, 0}}, {[]int{1}, 0, []byte{1, 0, 4, 1, 1, 0, 0x80}}, {[]int{5, 5, 5}, 0, []byte{3, 0, 5, 3, 3, 0, 0xB6, 0x80}}, {[]int{1023}, 0, []byte{1, 0, 5, 1, 10, 0, 0xFF, 0xC0}},
		{times(64, 0), 0, joined([]byte{64, 0}, zeros)}, {append(times(64, 0), 1), 0, joined([]byte{65, 0}, zeros, []byte{4, 1, 1, 0, 0x80})}, {times(128, 0), 0, joined([]byte{128, 1, 0}, zeros, zeros)}, {times(130, 0), 0, joined([]byte{130, 1, 0}, zeros, zeros, []byte{3, 2, 0, 0})},
		{with(times(40, 0), 1023, 1), 0, []byte{40, 0, 6, 40, 0, 1, 2, 255, 7}}, {times(4096, 0), 0, joined([]byte{128, 32, 0}, bytes.Repeat(zeros, 64))},
		// Both kinds need 14 bytes.
		{cycle(64, 0, 1), 0, joined([]byte{64, 0, 11, 64, 1, 0}, fives)},
		{cycle(65, 0, 1), 1, joined([]byte{65, 1, 2, 1, 1, 64}, fives, []byte{1, 0})}, {cycle(66, 0, 1), 1, joined([]byte{66, 1, 2, 1, 1, 64}, fives, []byte{2, 0x40})}, {cycle(128, 0, 1), 1, joined([]byte{128, 1, 1, 2, 1, 1, 64}, fives, []byte{64}, fives)}, {cycle(128, 3, 4), 1, joined([]byte{128, 1, 1, 5, 0, 0, 0, 1, 1, 64}, fives, []byte{64}, fives)},
		// One of the symbols is absent; the code of 2 is 10, and that of 3 is 11.
		{cycle(64, 0, 2, 0, 2, 0, 2, 0, 3), 1, joined([]byte{64, 1, 4, 1, 0, 2, 2, 96}, bytes.Repeat([]byte{0b01001001, 0b00110100, 0b10010011}, 4))},
		// A block has 128 bits; the last one has a number.
		{cycle(129, 0, 1, 2, 9), 1, joined([]byte{129, 1, 1, 10, 2, 2, 2, 0, 0, 0, 0, 0, 0, 2}, []byte{128, 1}, bytes.Repeat([]byte{0x1B}, 16), []byte{128, 1}, bytes.Repeat([]byte{0x1B}, 16), []byte{2, 0})},
	} {
		want := checksum.Seal(c.want)
		s := built(t, c.numbers)
		if got := s.Encode(); s.Kind() != c.kind || !bytes.Equal(got, want) {
			t.Errorf("Encode of %v = %v of the kind %d; expected %v of the kind %d", c.numbers, got, s.Kind(), want, c.kind)
		}
		checkStream(t, c.numbers)
	}
	if got := built(t, nil).Encode(); len(got) != 6 || !bytes.Equal(got, checksum.Seal([]byte{0, 0})) {
		t.Errorf("Encode of no numbers = %v", got)
	}
}

// The kind depends on a byte more or less.
func TestKinds(t *testing.T) {
	next := dice(163)
	met := map[int]int{}
	try := func(numbers []int) {
		both := encodings(numbers)
		more := len(both[0]) - len(both[1])
		met[more]++
		want := 0
		if more > 0 {
			want = 1
		}
		if s := built(t, numbers); s.Kind() != want || !bytes.Equal(s.Encode(), checksum.Seal(both[want])) {
			t.Errorf("%v has the kind %d; expected %d", numbers, s.Kind(), want)
		}
	}
	try(withCounts(next, 22, 21, 21))
	for n := 1; n < 400; n++ {
		try(scattered(next, n, 1+next(6), next(3)))
		try(scattered(next, n, 1+next(60), next(6)))
		try(cycle(n, 0, 1))
		try(cycle(n, 0, 1, 2))
	}
	for more := -3; more <= 3; more++ {
		if met[more] < 3 {
			t.Errorf("kind 0 needs %d bytes more than kind 1 in %d lists", more, met[more])
		}
	}
}

// No code has more than 15 bits, though the optimal one would have.
func TestLongestCodes(t *testing.T) {
	s := built(t, withCounts(dice(164), deepCounts()...))
	lengths := []byte{15, 15, 14, 13, 12, 11, 10, 9, 8, 7, 6, 5, 4, 3, 2, 2, 2}
	if got := s.Encode(); s.Kind() != 1 || !bytes.Equal(got[:21], joined([]byte{0xF2, 0x1B, 1, 17}, lengths)) {
		t.Errorf("Encode = %v.. of the kind %d", got[:21], s.Kind())
	}
}

// The lengths are those of the counts in the whole stream, and not of a block.
func TestCountsOfAllBlocks(t *testing.T) {
	s := built(t, slices.Concat(cycle(64, 0, 2), cycle(64, 0, 2), times(64, 9), times(30, 9)))
	if got := s.Encode(); s.Kind() != 1 || !bytes.Equal(got[:15], []byte{0xDE, 1, 1, 10, 2, 0, 2, 0, 0, 0, 0, 0, 0, 1, 128}) {
		t.Errorf("Encode = %v.. of the kind %d", got[:15], s.Kind())
	}
}
