package stab_test

import (
	"bytes"
	"slices"
	"testing"

	"corpora/api"
	"corpora/checksum"
	"corpora/stab"
)

// P12.3

func TestEncode(t *testing.T) {
	for _, c := range []struct {
		l    []span
		want []byte
	}{
		{nil, []byte{0}}, {spans(0, 1), []byte{1, 0, 0}}, {spans(1, 2), []byte{1, 1, 0}}, {spans(0, 2), []byte{1, 0, 1}},
		{spans(0, 5, 2, 3, 2, 8), []byte{3, 0, 4, 2, 0, 2, 5}}, {spans(2, 8, 2, 3, 0, 5, 2, 8), []byte{4, 2, 5, 2, 0, 0, 4, 2, 5}},
		{spans(127, 255), []byte{1, 127, 127}}, {spans(128, 257), []byte{1, 128, 1, 128, 1}}, {spans(300, 301, 2, 130), []byte{2, 172, 2, 0, 2, 127}},
		{spans(0, most), []byte{1, 0, 254, 255, 255, 255, 7}}, {spans(most-1, most), []byte{1, 254, 255, 255, 255, 7, 0}}, {spans(1<<30, most), []byte{1, 128, 128, 128, 128, 4, 254, 255, 255, 255, 3}},
	} {
		want := checksum.Seal(c.want)
		if got := built(t, c.l).Encode(); !bytes.Equal(got, want) {
			t.Errorf("Encode of %v = %v; expected %v", c.l, got, want)
		}
		x, e := stab.Decode(want)
		if e != api.OK || x.Len() != len(c.l) || !bytes.Equal(x.Encode(), want) {
			t.Errorf("Decode of the encoding of %v: %d", c.l, e)
		}
	}
	if got := built(t, nil).Encode(); !bytes.Equal(got, []byte{0, 0x51, 0x53, 0x7D, 0x52}) {
		t.Errorf("Encode of no spans = %x", got)
	}
}

func checkCorrupt(t *testing.T, b []byte) {
	t.Helper()
	if x, e := stab.Decode(b); x != nil || e != api.ErrCorrupt {
		t.Errorf("Decode of %d bytes, %v.. = %v, %d", len(b), b[:min(len(b), 20)], x, e)
	}
}

func TestDecodeErrors(t *testing.T) {
	for _, b := range [][]byte{
		{}, {1}, {1, 0}, {1, 0, 0, 0}, {2, 0, 0}, {2, 0, 0, 0}, {1, 0, 0, 0, 0}, {0, 0}, {0, 0, 0}, {3, 0, 0, 0, 0}, {127}, {255, 1},
		// Numbers that are not in the shortest form, that end too early, or that have too many bytes.
		{128, 0}, {129, 0, 0, 0}, {1, 128, 0, 0}, {1, 0, 128, 0}, {1, 129, 0, 0}, {128}, {1, 128}, {1, 0, 128}, {1, 0, 0, 128}, {1, 0, 255, 255}, {1, 128, 128, 128, 128, 128, 128, 128, 128, 128, 2, 0}, {1, 0, 128, 128, 128, 128, 128, 128, 128, 128, 128, 128, 1},
		// Spans that end behind the greatest end, also where the sum of two numbers exceeds 64 bits, or less.
		{1, 255, 255, 255, 255, 7, 0}, {1, 0, 255, 255, 255, 255, 7}, {1, 1, 254, 255, 255, 255, 7}, {1, 254, 255, 255, 255, 7, 1}, {1, 255, 255, 255, 255, 15, 0}, {1, 0, 255, 255, 255, 255, 15}, {1, 128, 128, 128, 128, 8, 0}, {1, 128, 128, 128, 128, 16, 0}, {1, 0, 128, 128, 128, 128, 16},
		{1, 255, 255, 255, 255, 255, 255, 255, 255, 255, 1, 0}, {1, 0, 255, 255, 255, 255, 255, 255, 255, 255, 255, 1}, {1, 5, 255, 255, 255, 255, 255, 255, 255, 255, 255, 1}, {1, 255, 255, 255, 255, 255, 255, 255, 255, 255, 1, 1}, {1, 255, 255, 255, 255, 255, 255, 255, 255, 127, 0}, {1, 0, 255, 255, 255, 255, 255, 255, 255, 255, 127},
		{2, 0, 0, 0, 255, 255, 255, 255, 7}, {2, 0, 255, 255, 255, 255, 7, 0, 0},
		// More spans than there are bytes for, up to the greatest number.
		{255, 255, 255, 255, 255, 255, 255, 255, 255, 1}, {255, 255, 255, 255, 255, 255, 255, 255, 127, 0, 0}, {129, 128, 128, 128, 16, 0, 0}, {128, 128, 128, 128, 128, 128, 128, 128, 128, 1}, {129, 128, 128, 128, 128, 128, 128, 128, 128, 1, 0, 0},
	} {
		checkCorrupt(t, checksum.Seal(b))
		checkCorrupt(t, b)
	}
	checkCorrupt(t, nil)
	checkCorrupt(t, make([]byte, 4)) // the sealed form of no bytes
	checkCorrupt(t, make([]byte, 1<<20))
	checkCorrupt(t, checksum.Seal(make([]byte, 1<<20)))
	checkCorrupt(t, checksum.Seal(bytes.Repeat([]byte{255}, 1<<20)))
}

func TestDecodeLimits(t *testing.T) {
	full := each(4096, func(i int) span { return at(i*7%4096*500000, most-i) })
	b := checksum.Seal(payload(full))
	x, e := stab.Decode(b)
	if e != api.OK || x.Len() != 4096 || !bytes.Equal(x.Encode(), b) {
		t.Fatalf("Decode of 4096 spans: %d", e)
	}
	for _, n := range []int{4097, 4098, 1 << 17} {
		checkCorrupt(t, checksum.Seal(payload(each(n, single))))
	}
	checkCorrupt(t, checksum.Seal(append(payload(full), 0)))
	checkCorrupt(t, checksum.Seal(append(payload(full), 0, 0)))
	full[4095].End = most + 1
	checkCorrupt(t, checksum.Seal(payload(full)))
}

// shortPayloads returns the payloads of up to six bytes out of 0, 1, 2, 127 and 128 with
// the lists that they are payloads of.
func shortPayloads() map[string][]span {
	few := []int{0}
	for _, last := range []int{1, 2, 127} {
		few = append(few, last, last<<7, last<<14, last<<21)
	}
	short := map[string][]span{}
	for _, numbers := range lists(4, few...) {
		if len(numbers)%2 == 1 {
			continue
		}
		l := each(len(numbers)/2, func(i int) span { return at(numbers[2*i], numbers[2*i]+numbers[2*i+1]+1) })
		if b := payload(l); len(b) <= 6 {
			short[string(b)] = l
		}
	}
	return short
}

// What is decoded is what is encoded, and nothing else.
func TestDecodeOfAllShortPayloads(t *testing.T) {
	short := shortPayloads()
	met := 0
	for _, b := range lists[byte](6, 0, 1, 2, 127, 128) {
		sealed := checksum.Seal(b)
		l, ok := short[string(b)]
		if !ok {
			checkCorrupt(t, sealed)
			continue
		}
		met++
		if x, e := stab.Decode(sealed); e != api.OK || x.Len() != len(l) || !bytes.Equal(x.Encode(), sealed) {
			t.Errorf("Decode of the payload %v of %v: %d", b, l, e)
		}
	}
	if met != len(short) {
		t.Errorf("%d payloads of %d were met", met, len(short))
	}
}

func TestDecodeOfChangedBytes(t *testing.T) {
	for _, l := range [][]span{nil, spans(0, 1), spans(0, 5, 2, 3, 2, 8), spans(300, 301, 2, 130), spans(most-1, most, 0, most)} {
		b := built(t, l).Encode()
		for n := range b {
			checkCorrupt(t, b[:n])
			for bit := range 8 {
				changed := slices.Clone(b)
				changed[n] ^= 1 << bit
				checkCorrupt(t, changed)
			}
		}
		for _, behind := range [][]byte{{0}, {1}, {0, 0}, {0, 0, 0, 0}, b} {
			checkCorrupt(t, append(slices.Clone(b), behind...))
			checkCorrupt(t, append(slices.Clone(behind), b...))
		}
		content := payload(l)
		for n := range content {
			checkCorrupt(t, checksum.Seal(content[:n]))
		}
		checkCorrupt(t, checksum.Seal(append(content, 0)))
		checkCorrupt(t, checksum.Seal(append(content, 0, 0)))
	}
}

func TestCodesAreNewMemory(t *testing.T) {
	l := spans(0, 5, 2, 3, 2, 8)
	x := built(t, l)
	first, second := x.Encode(), x.Encode()
	want := slices.Clone(second)
	room := append(make([]byte, 0, 64), second...)
	y, e := stab.Decode(room)
	if e != api.OK || !bytes.Equal(room, want) || bytes.ContainsFunc(room[len(room):64], func(r rune) bool { return r != 0 }) {
		t.Fatalf("the argument is %v now; %d", room[:64], e)
	}
	for _, b := range [][]byte{first[:cap(first)], room[:64]} {
		for i := range b {
			b[i] = 9
		}
	}
	for i, index := range []*stab.Index{x, y} {
		if got := index.Encode(); !bytes.Equal(got, want) || !bytes.Equal(second, want) {
			t.Errorf("%d: Encode = %v, and %v before; expected %v", i, got, second, want)
		}
		checkQueries(t, index, l, between(0, 9))
	}
}

func FuzzStab(f *testing.F) {
	f.Add([]byte{0, 4, 2, 0, 2, 5}, []byte{1, 172, 2, 0})
	f.Add([]byte{9, 0, 3, 3}, []byte{2, 0, 0, 128, 0})
	f.Fuzz(func(t *testing.T, first, second []byte) {
		first = first[:min(len(first), 32)]
		l := each(len(first)/2, func(i int) span { return at(int(first[2*i]), int(first[2*i])+int(first[2*i+1])%40+1) })
		checkIndex(t, l, append(slices.Clone(l), at(0, 300), at(9, 11), at(11, 9)))
		x, e := stab.Decode(checksum.Seal(second))
		if e == api.OK && bytes.Equal(x.Encode(), checksum.Seal(second)) || e == api.ErrCorrupt && x == nil {
			return
		}
		t.Fatalf("Decode of the payload %v = %v, %d", second, x, e)
	})
}
