package tokens_test

import (
	"bytes"
	"slices"
	"testing"

	"corpora/api"
	"corpora/checksum"
	"corpora/tokens"
)

// P16.2: what is decoded is what is encoded, and nothing else.

// checkCorrupt checks that bytes are no encoding.
func checkCorrupt(t *testing.T, why string, b []byte) {
	t.Helper()
	if s, e := tokens.Decode(b); s != nil || e != api.ErrCorrupt {
		t.Errorf("%s: Decode of %d bytes, %v.. = %v, %d; expected ErrCorrupt", why, len(b), b[:min(len(b), 40)], s != nil, e)
	}
}

// checkPayload compares Decode of sealed bytes with the reference.
func checkPayload(t *testing.T, payload []byte) {
	t.Helper()
	b := checksum.Seal(payload)
	numbers, ok := decoded(payload)
	if !ok {
		checkCorrupt(t, "payload", b)
		return
	}
	s, e := tokens.Decode(b)
	if e != api.OK {
		t.Fatalf("Decode of the payload %v: %d; expected %v", payload, e, numbers)
	}
	if got, _ := s.Slice(0, s.Len()); !slices.Equal(got, numbers) || !bytes.Equal(s.Encode(), b) {
		t.Fatalf("Decode of the payload %v has the numbers %v; expected %v", payload, got, numbers)
	}
}

func TestCorruptBytes(t *testing.T) {
	fives := bytes.Repeat([]byte{0x55}, 8)
	long := bytes.Repeat([]byte{255}, 9)
	coded := func(from, to []byte) []byte { // the encoding of 66 numbers 0, 1, 0, 1 .. with other parts
		return bytes.Replace(joined([]byte{66, 1, 2, 1, 1, 64}, fives, []byte{2, 0x40}), from, to, 1)
	}
	checkPayload(t, coded(nil, nil))
	if s, e := tokens.Decode(checksum.Seal(coded(nil, nil))); e != api.OK || s.Kind() != 1 {
		t.Error("the encoding that is changed is none:", e)
	}
	for _, c := range []struct {
		why string
		all [][]byte
	}{
		{"a part is missing", [][]byte{nil, {0}, {1}, {1, 0}, {1, 1}, {0, 1}, {1, 0, 3}, {1, 0, 3, 1, 0}, {64, 0}, {65, 0, 3, 64, 0, 0}, {65, 0, 3, 64, 0, 0, 3, 1, 0}, {128}, {1, 128}, {1, 0, 128}, {1, 1, 128}}},
		{"something follows", [][]byte{{0, 0, 0}, {0, 0, 0, 0}, {0, 0, 3, 0, 0, 0}, {1, 0, 3, 1, 0, 0, 0}, {1, 0, 3, 1, 0, 0, 3, 0, 0, 0}, {3, 0, 5, 3, 3, 0, 0xB6, 0x80, 0}, coded(fives, append(fives, 0)), coded([]byte{0x40}, []byte{0x40, 0})}},
		{"no kind", [][]byte{{0, 2}, {0, 255, 1}, {1, 2, 3, 1, 0, 0}, {1, 3, 3, 1, 0, 0}, {1, 128, 1, 3, 1, 0, 0}, {1, 129, 1, 3, 1, 0, 0}, joined([]byte{0}, long, []byte{1}), joined([]byte{1}, long, []byte{1, 3, 1, 0, 0}), {1, 128, 128, 128, 128, 16, 3, 1, 0, 0}, coded([]byte{1, 2}, []byte{2, 2}), coded([]byte{66, 1}, []byte{66, 129, 128, 128, 128, 16})}},
		{"the other kind", [][]byte{{0, 1, 0}, {1, 1, 1, 1, 1, 0}, {3, 1, 6, 0, 0, 0, 0, 0, 1, 3, 0}, joined([]byte{64, 1, 2, 1, 1, 64}, fives), joined([]byte{66, 0, 11, 64, 1, 0}, fives, []byte{4, 2, 1, 0, 0x40})}},
		{"another number of numbers", [][]byte{{0, 0, 3, 0, 0, 0}, {0, 0, 3, 1, 0, 0}, {2, 0, 3, 1, 0, 0}, {1, 0, 3, 2, 0, 0}, {1, 0, 3, 0, 0, 0}, {2, 0, 5, 3, 3, 0, 0xB6, 0x80}, {4, 0, 5, 3, 3, 0, 0xB6, 0x80}, {64, 0, 3, 63, 0, 0}, {63, 0, 3, 64, 0, 0}, {65, 0, 3, 64, 0, 0, 3, 2, 0, 0}, {65, 0, 3, 64, 0, 0, 3, 0, 0, 0}, coded([]byte{66}, []byte{65}), coded([]byte{66}, []byte{67}), coded([]byte{66}, []byte{64}), coded([]byte{66}, []byte{129, 1}), coded([]byte{66}, []byte{0})}},
		{"blocks of other sizes", [][]byte{packedIn([][]int{times(65, 0)}), packedIn([][]int{times(128, 0)}), packedIn([][]int{{0}, {0}}), packedIn([][]int{{}, {0}}), packedIn([][]int{{0}, {}}), packedIn([][]int{times(32, 0), times(32, 0)}), packedIn([][]int{{0}, times(64, 0)}), packedIn([][]int{times(63, 0), {0, 0}}), packedIn([][]int{times(128, 0), {0}}), packedIn([][]int{times(64, 0), {}, {0}}), joined([]byte{66, 1, 2, 1, 1, 66}, fives, []byte{0x40}), joined([]byte{66, 1, 2, 1, 1, 2, 0x40, 64}, fives)}},
		{"another size of a block", [][]byte{{3, 0, 4, 3, 3, 0, 0xB6, 0x80}, {3, 0, 6, 3, 3, 0, 0xB6, 0x80}, {3, 0, 6, 3, 3, 0, 0xB6, 0x80, 0}, {3, 0, 0, 3, 3, 0, 0xB6, 0x80}, {3, 0, 127, 3, 3, 0, 0xB6, 0x80}, {65, 0, 4, 64, 0, 0, 0, 3, 1, 0, 0}, {65, 0, 7, 64, 0, 0, 3, 1, 0, 0}, {65, 0, 2, 64, 0, 0, 3, 1, 0, 0}, joined([]byte{3, 0}, long, []byte{1, 3, 3, 0, 0xB6, 0x80})}},
		{"a block with another width", [][]byte{{1, 0, 4, 1, 1, 0, 0}, {1, 0, 5, 1, 0, 1, 1, 1}, {2, 0, 4, 2, 2, 0, 0x50}, {9, 0, 5, 9, 1, 0, 0, 0x80}, {0, 0, 3, 0, 1, 0}}},
		{"other bits of a block", [][]byte{coded([]byte{64, 0x55}, []byte{63, 0x55}), coded([]byte{64, 0x55}, []byte{65, 0x55}), coded([]byte{2, 0x40}, []byte{1, 0x40}), coded([]byte{2, 0x40}, []byte{3, 0x40}), coded([]byte{2, 0x40}, []byte{8, 0x40}), coded([]byte{2, 0x40}, []byte{9, 0x40}), coded([]byte{2, 0x40}, []byte{9, 0x40, 0}), coded([]byte{2, 0x40}, []byte{0}), coded([]byte{2, 0x40}, []byte{2}), coded([]byte{2, 0x40}, joined(long, []byte{1, 0x40})), coded([]byte{2, 0x40}, []byte{2, 0x41}), coded([]byte{2, 0x40}, []byte{2, 0x60}), coded([]byte{64, 0x55}, []byte{72, 0x55}), coded([]byte{64, 0x55}, joined(long, []byte{1, 0x55}))}},
		{"other lengths", [][]byte{coded([]byte{2, 1, 1}, []byte{3, 1, 1, 0}), coded([]byte{2, 1, 1}, []byte{3, 1, 2, 2}), coded([]byte{2, 1, 1}, []byte{2, 1, 2}), coded([]byte{2, 1, 1}, []byte{2, 2, 2}), coded([]byte{2, 1, 1}, []byte{2, 1, 0}), coded([]byte{2, 1, 1}, []byte{2, 0, 0}), coded([]byte{2, 1, 1}, []byte{0}), coded([]byte{2, 1, 1}, []byte{1, 1}), coded([]byte{2, 1, 1}, []byte{2, 1, 16}), coded([]byte{2, 1, 1}, []byte{2, 1, 255}), coded([]byte{2, 1, 1}, []byte{3, 1, 1, 1}), coded([]byte{2, 1, 1}, []byte{3, 1, 1, 15}), coded([]byte{2, 1, 1}, joined(long, []byte{1, 1, 1})), coded([]byte{2, 1, 1}, []byte{255, 255, 255, 255, 7, 1, 1}), coded([]byte{2, 1, 1}, []byte{130, 128, 128, 128, 16, 1, 1}), coded([]byte{2, 1, 1}, []byte{127, 1, 1})}},
		{"too great a number", [][]byte{{1, 0, 6, 1, 11, 0, 0x80, 0}, packedIn([][]int{{1024}}), packedIn([][]int{{1, 1<<31 - 1, 2}}), packedIn([][]int{times(64, 0), {0, 1024}}), codedBy(append(times(1023, 0), 1, 1), cycle(4096, 1023, 1024)), codedBy(append(times(4000, 0), 1, 1), cycle(4096, 4000, 4001))}},
		{"a number that is longer than need be", [][]byte{{128, 0, 0}, {0, 128, 0}, {129, 0, 0, 3, 1, 0, 0}, {1, 128, 0, 3, 1, 0, 0}, {1, 0, 131, 0, 1, 0, 0}, {1, 0, 4, 129, 0, 0, 0}, coded([]byte{66}, []byte{194, 0}), coded([]byte{66, 1}, []byte{66, 129, 0}), coded([]byte{1, 2, 1}, []byte{1, 130, 0, 1}), coded([]byte{64}, []byte{192, 0}), coded([]byte{2, 0x40}, []byte{130, 0, 0x40})}},
	} {
		for _, payload := range c.all {
			checkCorrupt(t, c.why, checksum.Seal(payload))
			checkCorrupt(t, c.why, payload)
			if numbers, ok := decoded(payload); ok {
				t.Errorf("%s: the reference reads %v as %v", c.why, payload, numbers)
			}
		}
	}
}

func TestDecodeLimits(t *testing.T) {
	few, many := times(4096, 0), cycle(4096, 0, 1)
	for _, numbers := range [][]int{few, many, append(times(4095, 0), 1023), each(4096, func(i int) int { return 1023 - i%1024 }), cycle(4096, 1022, 1023)} {
		both := encodings(numbers)
		kind, best := bestOf(numbers)
		if s, e := tokens.Decode(checksum.Seal(best)); e != api.OK || s.Len() != 4096 || s.Kind() != kind {
			t.Fatalf("Decode of 4096 numbers: %d", e)
		}
		checkCorrupt(t, "the other kind", checksum.Seal(both[1-kind]))
	}
	for _, n := range []int{4097, 4098, 4160, 1 << 14} {
		for _, numbers := range [][]int{times(n, 0), cycle(n, 0, 1), append(few, times(n-4096, 1)...)} {
			both := [][]byte{packedIn(blocksOf(numbers)), codedBy([]int{1, 1}, numbers)}
			checkCorrupt(t, "too many numbers", checksum.Seal(both[0]))
			checkCorrupt(t, "too many numbers", checksum.Seal(both[1]))
		}
	}
	for _, most := range [][]byte{{255, 255, 255, 255, 7}, {128, 128, 128, 128, 8}, {128, 128, 128, 128, 16}, joined(bytes.Repeat([]byte{255}, 8), []byte{127}), joined(bytes.Repeat([]byte{128}, 9), []byte{1}), joined(bytes.Repeat([]byte{255}, 9), []byte{1})} {
		for _, b := range [][]byte{joined(most, []byte{0}), joined(most, []byte{1}), joined(most, []byte{0, 3, 1, 0, 0}), joined([]byte{1}, most), joined([]byte{1, 0}, most, []byte{1, 0, 0}), joined([]byte{1, 1}, most, []byte{1, 1, 0}), joined([]byte{1, 1, 1, 1}, most, []byte{0})} {
			checkCorrupt(t, "too great a number", checksum.Seal(b))
		}
	}
	checkCorrupt(t, "no bytes", nil)
	checkCorrupt(t, "the sealed form of no bytes", make([]byte, 4))
	for _, x := range []byte{0, 1, 127, 128, 255} {
		checkCorrupt(t, "many equal bytes", bytes.Repeat([]byte{x}, 1<<20))
		checkCorrupt(t, "many equal bytes", checksum.Seal(bytes.Repeat([]byte{x}, 1<<20)))
		checkCorrupt(t, "many equal bytes", checksum.Seal(joined([]byte{128, 32, 1}, bytes.Repeat([]byte{x}, 1<<20))))
	}
}

// Only the encoding of the better kind is accepted, with the lengths of the procedure and with the best widths.
func TestOtherEncodings(t *testing.T) {
	for _, numbers := range samples() {
		both := encodings(numbers)
		kind, _ := bestOf(numbers)
		checkCorrupt(t, "the other kind", checksum.Seal(both[1-kind]))
		lengths := lengthsOf(numbers)
		checkCorrupt(t, "an absent symbol", checksum.Seal(codedBy(append(slices.Clone(lengths), 0), numbers)))
		for a := range min(len(lengths), 12) {
			for b := range a {
				other := slices.Clone(lengths)
				other[a], other[b] = other[b], other[a]
				if lengths[a] > 0 && lengths[b] > 0 && lengths[a] != lengths[b] {
					checkCorrupt(t, "lengths that are exchanged", checksum.Seal(codedBy(other, numbers)))
				}
			}
		}
	}
	// The codes of some other lengths are as short, but these are not the ones that the procedure finds.
	numbers := cycle(129, 0, 1, 2)
	if lengths := lengthsOf(numbers); !slices.Equal(lengths, []int{2, 2, 1}) {
		t.Fatal(lengths)
	}
	checkPayload(t, codedBy([]int{2, 2, 1}, numbers))
	for _, lengths := range [][]int{{1, 2, 2}, {2, 1, 2}, {2, 2, 2}, {3, 3, 1}, {1, 3, 2}, {15, 14, 13}} {
		checkCorrupt(t, "other lengths", checksum.Seal(codedBy(lengths, numbers)))
	}
}

func TestAllShortPayloads(t *testing.T) {
	short := map[string]bool{}
	for _, numbers := range append(lists(4, 0, 1, 2, 3, 4), times(64, 0), times(63, 0)) {
		_, b := bestOf(numbers)
		short[string(b)] = true
	}
	met := 0
	for _, b := range lists[byte](7, 0, 1, 2, 3, 4, 64) {
		if short[string(b)] {
			met++
			checkPayload(t, b)
		} else if s, e := tokens.Decode(checksum.Seal(b)); s != nil || e != api.ErrCorrupt {
			t.Fatalf("Decode of the payload %v: %d", b, e)
		}
	}
	if met != 11 {
		t.Errorf("%d payloads of streams were met; expected 11", met)
	}
}

// changes calls a function with a payload that is cut, made longer, and changed in a bit or a byte at each place.
func changes(payload []byte, check func(b []byte)) {
	for i := range payload {
		check(payload[:i])
		check(payload[i+1:])
		check(slices.Delete(slices.Clone(payload), i, i+1))
		for _, x := range []byte{0, 1, 2, 64, 127, 128, 129, 255} {
			check(slices.Insert(slices.Clone(payload), i, x))
		}
		for change := 1; change < 256; change++ {
			if len(payload) > 40 && change&(change-1) != 0 {
				continue
			}
			other := slices.Clone(payload)
			other[i] ^= byte(change)
			check(other)
		}
	}
	for x := range 256 {
		check(append(slices.Clone(payload), byte(x)))
	}
}

func TestChangedPayloads(t *testing.T) {
	next := dice(165)
	met := [2]int{}
	for _, numbers := range [][]int{nil, {0}, {5, 5, 5}, {40, 0, 3}, append(times(64, 0), 1), with(times(70, 2), 60, 0, 69), cycle(65, 0, 1), cycle(66, 0, 1), cycle(130, 3, 4), scattered(next, 140, 6, 1), cycle(129, 0, 5, 10, 2), withCounts(next, 22, 21, 21)} {
		for _, payload := range encodings(numbers) {
			changes(payload, func(b []byte) {
				checkPayload(t, b)
				if s, e := tokens.Decode(checksum.Seal(b)); e == api.OK {
					met[s.Kind()]++
				}
			})
		}
	}
	if min(met[0], met[1]) < 1000 {
		t.Errorf("the changes make encodings of both kinds only %v times", met)
	}
}

// The bytes have the sum of other ones.
func TestChangedBytes(t *testing.T) {
	for _, numbers := range [][]int{nil, {5, 5, 5}, append(times(64, 0), 1), cycle(66, 0, 1), scattered(dice(166), 300, 90, 3)} {
		b := built(t, numbers).Encode()
		for i := range b {
			checkCorrupt(t, "cut", b[:i])
			checkCorrupt(t, "cut", b[i+1:])
			for bit := range 8 {
				other := slices.Clone(b)
				other[i] ^= 1 << bit
				checkCorrupt(t, "changed", other)
			}
		}
		for x := range 256 {
			checkCorrupt(t, "longer", append(slices.Clone(b), byte(x)))
			checkCorrupt(t, "longer", joined([]byte{byte(x)}, b))
		}
	}
}

func TestScatteredPayloads(t *testing.T) {
	next := dice(167)
	for range 20000 {
		b := make([]byte, next(40))
		for i := range b {
			b[i] = byte(next(2 << next(8)))
		}
		if len(b) > 1 {
			b[1] %= 2
		}
		checkPayload(t, b)
	}
}

func TestDecodedStreamsAreNewMemory(t *testing.T) {
	for _, numbers := range [][]int{{1, 2, 3}, cycle(130, 0, 2)} {
		b := roomy(built(t, numbers).Encode(), 70)
		held := slices.Clone(b[:cap(b)])
		s, e := tokens.Decode(b)
		other, _ := tokens.Decode(b)
		if e != api.OK || !bytes.Equal(b[:cap(b)], held) {
			t.Fatalf("the argument is %v now; %d", b[:cap(b)], e)
		}
		overwrite(b)
		first, _ := s.Slice(0, s.Len())
		overwrite(first)
		overwrite(s.Encode())
		for _, s := range []*tokens.Stream{s, other} {
			checkAccess(t, s, numbers)
			if got := s.Encode(); !bytes.Equal(got, held[:len(b)]) {
				t.Fatalf("Encode = %v; expected %v", got, held[:len(b)])
			}
		}
	}
}

func FuzzTokens(f *testing.F) {
	f.Add([]byte{3, 0, 5, 3, 3, 0, 0xB6, 0x80}, []byte{0, 1, 2, 3}, uint16(2), byte(6))
	f.Add(codedBy([]int{1, 1}, cycle(66, 0, 1)), []byte{7, 0, 31, 1, 255, 4}, uint16(130), byte(1))
	f.Fuzz(func(t *testing.T, payload, some []byte, size uint16, change byte) {
		if len(payload) < 2000 {
			checkPayload(t, payload)
		}
		if len(some) == 0 {
			return
		}
		numbers := each(int(size)%600, func(i int) int { return int(some[i%len(some)]) * (1 + i%(1+int(size)/600%4)) })
		checkStream(t, numbers)
		_, b := bestOf(numbers)
		b[int(size)%len(b)] ^= change
		checkPayload(t, b)
	})
}
