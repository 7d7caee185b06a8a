package postings_test

import (
	"bytes"
	"math"
	"slices"
	"strings"
	"testing"

	"corpora/api"
	"corpora/checksum"
	"corpora/postings"
)

// P17.3: what is decoded is what is encoded, and nothing else.

// checkCorrupt checks that bytes are no encoding.
func checkCorrupt(t *testing.T, why string, b []byte) {
	t.Helper()
	if l, e := postings.Decode(b); l != nil || e != api.ErrCorrupt {
		t.Errorf("%s: Decode of %d bytes, %v.. = %v, %d; expected ErrCorrupt", why, len(b), b[:min(len(b), 40)], l != nil, e)
	}
}

// checkPayload compares Decode of sealed bytes with the reference, and reports whether they are an encoding.
func checkPayload(t *testing.T, payload []byte) bool {
	t.Helper()
	b := checksum.Seal(payload)
	positions, ok := decoded(payload)
	if !ok {
		checkCorrupt(t, "payload", b)
		return false
	}
	l, e := postings.Decode(b)
	if e != api.OK {
		t.Fatalf("Decode of the payload %v: %d; expected %v", payload, e, positions)
	}
	if got := l.All(); !slices.Equal(got, positions) || l.Len() != len(positions) || !bytes.Equal(l.Encode(), b) {
		t.Fatalf("Decode of the payload %v has the positions %v; expected %v", payload, got, positions)
	}
	return true
}

func TestCorruptBytes(t *testing.T) {
	long := bytes.Repeat([]byte{255}, 9)
	parts := func(from, to []byte) []byte { // the encoding of the positions 0 to 32 with another part
		return bytes.Replace([]byte{33, 33, 255, 255, 255, 255, 128, 16, 16, 16, 16}, from, to, 1)
	}
	if !checkPayload(t, parts(nil, nil)) {
		t.Error("the encoding that is changed is none")
	}
	for _, c := range []struct {
		why string
		all [][]byte
	}{
		{"a part is missing", [][]byte{nil, {0}, {1}, {1, 1}, {3, 7}, {33, 33}, {128}, {1, 128}, {17, 17, 255, 255}, {17, 17, 255, 255, 128}, {17, 17, 255, 255, 128, 16}, {17, 17, 255, 255, 128, 16, 144}, {33, 33, 255, 255, 255, 255, 128, 16, 16}, {33, 33, 255, 255, 255, 255, 128, 16, 16, 16}, {33, 33, 255, 255, 255, 255, 128}}},
		{"something follows", [][]byte{{0, 0, 0}, {0, 0, 0, 0}, {1, 1, 128, 0}, {3, 7, 0xB2, 0}, {3, 7, 0xB2, 16, 16}, {16, 16, 255, 255, 0}, {16, 16, 255, 255, 16, 16}, {17, 17, 255, 255, 128, 16, 16, 0}, {17, 17, 255, 255, 128, 16, 16, 16, 16}, {32, 32, 255, 255, 255, 255, 16, 16, 16, 16}, append(parts(nil, nil), 0), append(parts(nil, nil), 16, 16)}},
		{"another number of positions", [][]byte{{0, 1, 128}, {2, 1, 128}, {1, 0}, {0, 7, 0xB2}, {2, 7, 0xB2}, {4, 7, 0xB2}, {15, 16, 255, 255}, {17, 16, 255, 255}, {17, 16, 255, 255, 16, 16}, {16, 17, 255, 255, 128}, {16, 17, 255, 255, 128, 16, 16}, {18, 17, 255, 255, 128, 16, 16}, parts([]byte{33}, []byte{32}), parts([]byte{33}, []byte{34}), parts([]byte{33}, []byte{0}), parts([]byte{33}, joined(long, []byte{1})), parts([]byte{33}, []byte{161, 128, 128, 128, 16}), {131, 128, 128, 128, 128, 128, 128, 128, 128, 1, 7, 0xB2}}},
		{"another number of bits", [][]byte{{1, 2, 128}, {1, 2, 192}, {1, 8, 128}, {1, 9, 128, 0}, {1, 9, 128}, {1, 0, 128}, {3, 6, 0xB2}, {3, 8, 0xB2}, {3, 8, 0xB3}, {3, 0}, {3, 15, 0xB2, 0}, parts([]byte{33, 255}, []byte{32, 255}), parts([]byte{33, 255}, []byte{34, 255}), parts([]byte{33, 255}, []byte{40, 255}), parts([]byte{33, 255}, []byte{0, 255}), parts([]byte{33, 255}, joined(long, []byte{1, 255})), parts([]byte{33, 255}, []byte{161, 128, 128, 128, 16, 255}), {3, 135, 128, 128, 128, 16, 0xB2}, {1, 129, 128, 128, 128, 128, 128, 128, 128, 128, 1, 128}, {0, 255, 255, 255, 255, 255, 255, 255, 255, 127}, {0, 128, 128, 128, 128, 128, 128, 128, 128, 128, 1}}},
		{"bits behind the last gap", [][]byte{{1, 1, 129}, {1, 1, 192}, {1, 1, 255}, {3, 7, 0xB3}, {1, 2, 160}, {9, 9, 255, 129}, parts([]byte{128}, []byte{129}), parts([]byte{128}, []byte{192})}},
		{"gaps that are none", [][]byte{{1, 1, 0}, {1, 3, 0x40}, {1, 8, 0}, {1, 64, 0, 0, 0, 0, 0, 0, 0, 0}, {1, 72, 0, 0, 0, 0, 0, 0, 0, 0, 255}, {3, 7, 0b10110000}, {3, 7, 0b10010010}, {1, 16, 2, 8}, {1, 16, 2, 12}}},
		{"another skip table", [][]byte{{17, 17, 255, 255, 128, 15, 16}, {17, 17, 255, 255, 128, 17, 16}, {17, 17, 255, 255, 128, 16, 15}, {17, 17, 255, 255, 128, 16, 17}, {17, 17, 255, 255, 128, 0, 0}, {17, 17, 255, 255, 128, 1, 16}, {33, 33, 255, 255, 255, 255, 128, 16, 16, 32, 32}, {33, 33, 255, 255, 255, 255, 128, 16, 16, 16, 15}, {33, 33, 255, 255, 255, 255, 128, 16, 16, 15, 16}, {33, 33, 255, 255, 255, 255, 128, 16, 15, 16, 16}, {33, 33, 255, 255, 255, 255, 128, 15, 16, 16, 16}, {33, 33, 255, 255, 255, 255, 128, 32, 32, 16, 16}, {33, 33, 255, 255, 255, 255, 128, 16, 16, 16, 128}, joined(parts(nil, nil)[:10], long, []byte{1})}},
		{"a number that is longer than need be", [][]byte{{128, 0, 0}, {0, 128, 0}, {129, 0, 1, 128}, {1, 129, 0, 128}, {131, 0, 7, 0xB2}, {3, 135, 0, 0xB2}, {17, 17, 255, 255, 128, 144, 0, 16}, {17, 17, 255, 255, 128, 16, 144, 0}, parts([]byte{33}, []byte{161, 0}), parts([]byte{33, 255}, []byte{161, 0, 255})}},
	} {
		for _, payload := range c.all {
			checkCorrupt(t, c.why, checksum.Seal(payload))
			checkCorrupt(t, c.why, payload)
			if positions, ok := decoded(payload); ok {
				t.Errorf("%s: the reference reads %v as %v", c.why, payload, positions)
			}
		}
	}
}

// gapsOf returns the code of gaps, which need not lead to positions.
func gapsOf(gaps ...uint64) code {
	var digits strings.Builder
	for _, gap := range gaps {
		digits.WriteString(delta(gap))
	}
	return code{size: len(gaps), bits: digits.Len(), digits: digits.String()}
}

// Gaps lead to a position that is too great, or around to one that is not.
func TestGreatGaps(t *testing.T) {
	for _, gaps := range [][]uint64{{1}, {1 << 31}, {1, 1<<31 - 1}, {1<<31 - 1, 1}, {1 << 30, 1 << 30}} {
		if !checkPayload(t, gapsOf(gaps...).payload()) {
			t.Errorf("the gaps %v are no list", gaps)
		}
	}
	for _, great := range []uint64{1<<31 + 1, 1<<31 + 2, 1 << 32, 1<<32 + 1, 1 << 62, 1<<63 - 1, 1 << 63, 1<<63 + 1, 1<<64 - 6, 1<<64 - 2, math.MaxUint64} {
		for _, gaps := range [][]uint64{{great}, {1, great}, {6, great}, {great, 1}, {great, great}, {6, great, 8}, {6, great, -great}, {6, great, great}, {great, -great, 3}} {
			if !slices.Contains(gaps, 0) {
				checkCorrupt(t, "a great gap", checksum.Seal(gapsOf(gaps...).payload()))
			}
		}
	}
	for _, gaps := range [][]uint64{{1, 1 << 31}, {2, 1<<31 - 1}, {1<<31 - 1, 2}, {1 << 31, 1}, {1 << 30, 1 << 30, 1}} {
		checkCorrupt(t, "a position above the greatest one", checksum.Seal(gapsOf(gaps...).payload()))
	}
	for _, size := range []int{65, 66, 127, 1 << 31} { // a gap with more than 64 bits
		digits := strings.Repeat("0", len(delta(uint64(size)))) + "1" + strings.Repeat("1", 140)
		checkCorrupt(t, "a gap of many bits", checksum.Seal(code{size: 1, bits: len(digits), digits: digits}.payload()))
	}
}

func TestDecodeLimits(t *testing.T) {
	for _, positions := range [][]int{run(0, 4096), run(most-4095, 4096), steps(0, 4096, 500000), scattered(dice(175), 4096, 900)} {
		if l, e := postings.Decode(checksum.Seal(payloadOf(positions))); e != api.OK || !slices.Equal(l.All(), positions) {
			t.Fatalf("Decode of 4096 positions: %d", e)
		}
		c := codeOf(positions)
		c.size++
		checkCorrupt(t, "more positions than gaps", checksum.Seal(c.payload()))
		c.size -= 2
		checkCorrupt(t, "more gaps than positions", checksum.Seal(c.payload()))
	}
	for _, n := range []int{4097, 4098, 4112, 4113, 1 << 14, 1 << 17} {
		c := codeOf(run(0, n))
		checkCorrupt(t, "too many positions", checksum.Seal(c.payload()))
		c.size = 4096
		checkCorrupt(t, "too many gaps", checksum.Seal(c.payload()))
		c.skips = c.skips[:510]
		checkCorrupt(t, "too many gaps", checksum.Seal(c.payload()))
		c.bits, c.digits = 4096, c.digits[:4096]
		if !checkPayload(t, c.payload()) {
			t.Error("the list of 4096 positions that was left is refused")
		}
	}
	for _, great := range [][]byte{{255, 255, 255, 255, 7}, {128, 128, 128, 128, 8}, {128, 128, 128, 128, 16}, joined(bytes.Repeat([]byte{255}, 8), []byte{127}), joined(bytes.Repeat([]byte{128}, 9), []byte{1}), joined(bytes.Repeat([]byte{255}, 9), []byte{1}), joined(bytes.Repeat([]byte{255}, 9), []byte{2})} {
		for _, b := range [][]byte{great, joined(great, []byte{0}), joined(great, []byte{7, 0xB2}), joined(great, great), joined([]byte{0}, great), joined([]byte{1}, great, []byte{128}), joined([]byte{3}, great, []byte{0xB2}), joined([]byte{17, 17, 255, 255, 128}, great, []byte{16}), joined([]byte{17, 17, 255, 255, 128, 16}, great)} {
			checkCorrupt(t, "too great a number", checksum.Seal(b))
		}
	}
	checkCorrupt(t, "no bytes", nil)
	checkCorrupt(t, "the sealed form of no bytes", make([]byte, 4))
	for _, x := range []byte{0, 1, 127, 128, 255} {
		many := bytes.Repeat([]byte{x}, 1<<20)
		checkCorrupt(t, "many equal bytes", many)
		checkCorrupt(t, "many equal bytes", checksum.Seal(many))
		for _, size := range []int{0, 1, 4096, 4097, 8 << 20, most} {
			checkCorrupt(t, "many equal bytes", checksum.Seal(joined(uvarint(size), uvarint(8<<20), many)))
		}
	}
}

// Fewer than four bytes are no encoding either, though Unseal has another error for them.
func TestShortBytes(t *testing.T) {
	checkCorrupt(t, "short", []byte{})
	for _, b := range lists[byte](3, 0, 1, 255) {
		checkCorrupt(t, "short", b)
	}
}

func TestAllShortPayloads(t *testing.T) {
	met := 0
	for _, b := range lists[byte](5, 0, 1, 2, 4, 5, 0x40, 0x48, 0xA0, 128, 192) {
		if checkPayload(t, b) {
			met++
		}
	}
	if met != 6 { // those of no positions, 0, 1, 0 and 1, 0 and 2, 1 and 2
		t.Errorf("%d payloads of lists were met", met)
	}
}

// changes calls a function with a payload that is cut, made longer, and changed in a bit or a byte at each place.
func changes(payload []byte, check func(b []byte)) {
	for i := range payload {
		check(payload[:i])
		check(payload[i+1:])
		check(slices.Delete(slices.Clone(payload), i, i+1))
		for _, x := range []byte{0, 1, 2, 16, 127, 128, 129, 255} {
			check(slices.Insert(slices.Clone(payload), i, x))
		}
		for change := 1; change < 256; change++ {
			if len(payload) > 60 && change&(change-1) != 0 {
				continue
			}
			other := slices.Clone(payload)
			other[i] ^= byte(change)
			check(other)
		}
	}
	for x := range 256 {
		check(append(slices.Clone(payload), byte(x)))
	}
}

func TestChangedPayloads(t *testing.T) {
	next := dice(176)
	met := 0
	for _, positions := range [][]int{nil, {0}, {0, 4, 5}, {most}, {3, 300, 1 << 20, most - 1}, run(0, 16), run(0, 17), run(5, 33), append(run(0, 16), 1000), steps(8, 33, 9), scattered(next, 40, 60), scattered(next, 70, 5000)} {
		changes(payloadOf(positions), func(b []byte) {
			if checkPayload(t, b) {
				met++
			}
		})
	}
	if met < 300 {
		t.Errorf("the changes make other encodings only %d times", met)
	}
}

// One part of an encoding is that of another list.
func TestMixedCodes(t *testing.T) {
	next := dice(177)
	for range 3000 {
		a, b := codeOf(scattered(next, next(50), 40)), codeOf(scattered(next, next(50), 40))
		for i := range 16 {
			c := a
			if i&1 != 0 {
				c.size = b.size
			}
			if i&2 != 0 {
				c.bits = b.bits
			}
			if i&4 != 0 {
				c.digits = b.digits
			}
			if i&8 != 0 {
				c.skips = b.skips
			}
			checkPayload(t, c.payload())
		}
		if len(a.skips) > 0 {
			i := next(len(a.skips))
			for _, change := range []int{-1, 1, 16, 128} {
				c := a
				c.skips = with(a.skips, i, max(a.skips[i]+change, 0))
				checkCorrupt(t, "another skip", checksum.Seal(c.payload()))
			}
		}
	}
}

// The bytes have the sum of other ones.
func TestChangedBytes(t *testing.T) {
	for _, positions := range [][]int{nil, {0, 4, 5}, run(0, 17), steps(3, 50, 300)} {
		b := built(t, positions).Encode()
		for i := range b {
			checkCorrupt(t, "cut", b[:i])
			checkCorrupt(t, "cut", b[i+1:])
			for bit := range 8 {
				other := slices.Clone(b)
				other[i] ^= 1 << bit
				checkCorrupt(t, "changed", other)
			}
		}
		for x := range 256 {
			checkCorrupt(t, "longer", append(slices.Clone(b), byte(x)))
			checkCorrupt(t, "longer", joined([]byte{byte(x)}, b))
		}
	}
}

func TestScatteredPayloads(t *testing.T) {
	next := dice(178)
	for range 20000 {
		b := make([]byte, next(40))
		for i := range b {
			b[i] = byte(next(2 << next(8)))
		}
		checkPayload(t, b)
	}
}

func TestDecodedListsAreNewMemory(t *testing.T) {
	for _, positions := range [][]int{{1, 2, 3}, steps(5, 40, 300)} {
		b := roomy(built(t, positions).Encode(), 70)
		held := slices.Clone(b[:cap(b)])
		l, e := postings.Decode(b)
		other, _ := postings.Decode(b)
		if e != api.OK || !bytes.Equal(b[:cap(b)], held) {
			t.Fatalf("the argument is %v now; %d", b[:cap(b)], e)
		}
		overwrite(b)
		overwrite(l.All())
		overwrite(l.Encode())
		for _, l := range []*postings.List{l, other} {
			checkAccess(t, l, positions)
			checkSeek(t, l, positions)
			if got := l.Encode(); !bytes.Equal(got, held[:len(b)]) {
				t.Fatalf("Encode = %v; expected %v", got, held[:len(b)])
			}
		}
	}
}

func FuzzPostings(f *testing.F) {
	f.Add([]byte{3, 7, 0xB2}, []byte{0, 1, 2, 3}, uint16(2), byte(6))
	f.Add(payloadOf(steps(8, 33, 9)), []byte{7, 0, 31, 1, 255, 4}, uint16(130), byte(1))
	f.Fuzz(func(t *testing.T, payload, some []byte, size uint16, change byte) {
		if len(payload) < 2000 {
			checkPayload(t, payload)
		}
		if len(some) == 0 {
			return
		}
		p := -1
		positions := each(int(size)%600, func(i int) int {
			p += 1 + int(some[i%len(some)])<<(i*int(size/600)%13)
			return p
		})
		checkList(t, positions)
		b := payloadOf(positions)
		b[int(size)%len(b)] ^= change
		checkPayload(t, b)
	})
}
