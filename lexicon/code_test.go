package lexicon_test

import (
	"bytes"
	"slices"
	"strings"
	"testing"

	"corpora/api"
	"corpora/checksum"
	"corpora/lexicon"
)

// P13.4

// bytesOf returns numbers and texts one after the other as bytes.
func bytesOf(parts ...any) []byte {
	var b []byte
	for _, part := range parts {
		switch x := part.(type) {
		case int:
			b = append(b, byte(x))
		case string:
			b = append(b, x...)
		}
	}
	return b
}

func TestEncode(t *testing.T) {
	for _, c := range []struct {
		values []string
		want   []byte
	}{
		{nil, bytesOf(0)}, {[]string{""}, bytesOf(1, 0, 0, 0)}, {[]string{"a"}, bytesOf(1, 0, 1, "a", 0)}, {[]string{"", "", ""}, bytesOf(1, 0, 0, 2)},
		{[]string{"b", "a", "ab", "a"}, bytesOf(3, 0, 1, "a", 1, 1, 1, "b", 0, 0, 1, "b", 0)}, {[]string{"a", "", "a"}, bytesOf(2, 0, 0, 0, 0, 1, "a", 1)},
		{[]string{"man", "mane", "many", "mat"}, bytesOf(4, 0, 3, "man", 0, 3, 1, "e", 0, 3, 1, "y", 0, 2, 1, "t", 0)},
		// A common prefix may end within a code point, and a word may consist of nothing else but one more byte.
		{[]string{"è", "é", "éa"}, bytesOf(3, 0, 2, "è", 0, 1, 1, "\xa9", 0, 2, 1, "a", 0)}, {[]string{"a€", "a\u20ad", "aa"}, bytesOf(3, 0, 2, "aa", 0, 1, 3, "€", 0, 3, 1, "\xad", 0)},
		{[]string{long(120), long(119), long(119) + "b"}, bytesOf(3, 0, 119, long(119), 0, 119, 1, "a", 0, 119, 1, "b", 0)},
		{times(128, "a"), bytesOf(1, 0, 1, "a", 127)}, {times(129, "a"), bytesOf(1, 0, 1, "a", 128, 1)}, {times(4096, "a"), bytesOf(1, 0, 1, "a", 255, 31)}, {append(times(301, "b"), "a"), bytesOf(2, 0, 1, "a", 0, 0, 1, "b", 172, 2)},
	} {
		want := checksum.Seal(c.want)
		x, _ := built(t, c.values...)
		if got := x.Encode(); !bytes.Equal(got, want) {
			t.Errorf("Encode of %.200q = %v; expected %v", c.values, got, want)
		}
		y, e := lexicon.Decode(want)
		if e != api.OK || !bytes.Equal(y.Encode(), want) {
			t.Fatalf("Decode of the encoding of %.200q: %d", c.values, e)
		}
		checkWords(t, y, c.values, wordsOf(c.values))
	}
	none, _ := built(t)
	if got := none.Encode(); !bytes.Equal(got, []byte{0, 0x51, 0x53, 0x7D, 0x52}) {
		t.Errorf("Encode of no words = %x", got)
	}
}

func checkCorrupt(t *testing.T, b []byte) {
	t.Helper()
	if x, e := lexicon.Decode(b); x != nil || e != api.ErrCorrupt {
		t.Errorf("Decode of %d bytes, %.40q.. = %v, %d", len(b), b, x != nil, e)
	}
}

func TestDecodeErrors(t *testing.T) {
	a := bytesOf(0, 1, "a", 0)
	after := func(parts ...any) []byte { return bytesOf(2, string(a), string(bytesOf(parts...))) }
	for _, b := range [][]byte{
		// Bytes that end too early, or too late.
		{}, {1}, {1, 0}, {1, 0, 0}, {1, 0, 1}, bytesOf(1, 0, 1, "a"), bytesOf(2, 0, 0, 0), bytesOf(2, 0, 0, 0, 0, 1, "a"), {0, 0}, {1, 0, 0, 0, 0}, after(0, 1, "b"), after(0, 1, "b", 0, 0), bytesOf(1, 0, 2, "a", 0), bytesOf(1, 0, 5, "a", 0),
		// Words in another order, that occur twice, or that share a prefix of another length.
		bytesOf(2, 0, 1, "b", 0, 0, 1, "a", 0), bytesOf(2, 0, 1, "b", 0, 0, 0, 0), bytesOf(2, 0, 0, 0, 0, 0, 0), after(0, 1, "a", 0), after(1, 0, 0), after(0, 0, 0), after(1, 1, "b", 0, 0), after(0, 2, "ab", 0), after(1, 0, 1), after(0, 1, "A", 0),
		bytesOf(1, 1, 1, "a", 0), bytesOf(1, 1, 0, 0), bytesOf(1, 120, 0, 0), after(2, 1, "b", 0), after(2, 0, 0), after(120, 0, 0), after(3, 1, "b", 0), bytesOf(3, 0, 2, "ab", 0, 1, 1, "c", 0, 1, 1, "b", 0), bytesOf(2, 0, 2, "ab", 0, 0, 2, "ac", 0), bytesOf(2, 0, 2, "ab", 0, 1, 2, "bc", 0),
		// Values that are no code points, also where the first word is right.
		bytesOf(1, 0, 1, "\xff", 0), bytesOf(1, 0, 1, "\xc3", 0), bytesOf(1, 0, 3, "\xed\xa0\x80", 0), after(0, 1, "\xff", 0), after(1, 1, "\xa9", 0), bytesOf(2, 0, 2, "é", 0, 1, 1, "\xc3", 0), bytesOf(2, 0, 2, "é", 0, 0, 1, "\xc3", 0), bytesOf(2, 0, 1, "\xc3", 0, 1, 1, "\xa9", 0),
		// Numbers that are not in the shortest form, that end too early, or that have too many bytes.
		{128, 0}, bytesOf(129, 0, 0, 1, "a", 0), bytesOf(1, 128, 0, 1, "a", 0), bytesOf(1, 0, 129, 0, "a", 0), bytesOf(1, 0, 1, "a", 128, 0), bytesOf(1, 0, 1, "a", 129, 0), {128}, {1, 128}, {1, 0, 128}, bytesOf(1, 0, 1, "a", 128), bytesOf(1, 0, 1, "a", 255, 255), bytesOf(1, 0, 1, "a", strings.Repeat("\x80", 10), 1),
		// Counts and numbers of values that are too great.
		bytesOf(1, 0, 1, "a", 128, 32), bytesOf(1, 0, 1, "a", 255, 63), bytesOf(1, 0, 1, "a", 255, 255, 255, 255, 7), bytesOf(1, 0, 1, "a", 255, 255, 255, 255, 15), bytesOf(1, 0, 1, "a", 128, 128, 128, 128, 16), bytesOf(1, 0, 1, "a", strings.Repeat("\xff", 9), 1), bytesOf(1, 0, 1, "a", strings.Repeat("\xff", 8), 127),
		bytesOf(2, 0, 1, "a", 255, 31, 0, 1, "b", 0), bytesOf(2, 0, 1, "a", 255, 31, 0, 1, "b", 255, 31), bytesOf(2, 0, 1, "a", 255, 30, 0, 1, "b", 128, 1), bytesOf(2, 0, 1, "a", 255, 31, 0, 1, "b", strings.Repeat("\xff", 9), 1), bytesOf(2, 0, 1, "a", 255, 31, 0, 1, "b", 255, 255, 255, 255, 15),
		// More words, and more bytes, than there are, up to the greatest number.
		{127}, {255, 1}, {255, 255, 255, 255, 7}, bytesOf(255, 255, 255, 255, 7, 0, 1, "a", 0), bytesOf(strings.Repeat("\xff", 9), 1), bytesOf(strings.Repeat("\xff", 8), 127, 0, 0), bytesOf(129, 128, 128, 128, 16, 0, 1, "a", 0), bytesOf(1, 0, strings.Repeat("\xff", 9), 1, "a", 0), bytesOf(1, strings.Repeat("\xff", 9), 1, 1, "a", 0), bytesOf(1, 0, 129, 128, 128, 128, 16, "a", 0), after(strings.Repeat("\xff", 9), 1, 1, "b", 0), after(129, 128, 128, 128, 16, 1, "b", 0),
	} {
		checkCorrupt(t, checksum.Seal(b))
		checkCorrupt(t, b)
	}
	for _, most := range []string{"\xff\xff\xff\xff\x07", "\x80\x80\x80\x80\x08", "\x80\x80\x80\x80\x10", strings.Repeat("\xff", 8) + "\x7f", strings.Repeat("\x80", 9) + "\x01", "\xfe" + strings.Repeat("\xff", 8) + "\x01", strings.Repeat("\xff", 9) + "\x01"} {
		for _, b := range [][]byte{bytesOf(most), bytesOf(most, 0, 1, "a", 0), bytesOf(1, most, 1, "a", 0), bytesOf(1, 0, most, "a", 0), bytesOf(1, 0, 1, "a", most), after(most, 1, "b", 0), after(0, most, "b", 0), after(0, 1, "b", most)} {
			checkCorrupt(t, checksum.Seal(b))
		}
	}
	checkCorrupt(t, nil)
	checkCorrupt(t, make([]byte, 4)) // the sealed form of no bytes
	for _, x := range []byte{0, 1, 127, 128, 255} {
		checkCorrupt(t, bytes.Repeat([]byte{x}, 1<<20))
		checkCorrupt(t, checksum.Seal(bytes.Repeat([]byte{x}, 1<<20)))
	}
}

func TestDecodeLimits(t *testing.T) {
	for i, values := range [][]string{
		{long(120)}, {long(119), long(120)}, {strings.Repeat("é", 60)}, numerals(1024), cycle(4096, 1024), cycle(4096, 1), append(times(3073, "0"), numerals(1024)[1:]...), append(times(3073, "999"), numerals(999)...), append(numerals(1000), long(120), long(119)),
	} {
		b := checksum.Seal(payload(entriesOf(values)))
		x, e := lexicon.Decode(b)
		if e != api.OK || !bytes.Equal(x.Encode(), b) {
			t.Fatalf("%d: Decode of %d values: %d", i, len(values), e)
		}
		checkWords(t, x, values, wordsOf(values))
	}
	for _, values := range [][]string{
		{long(121)}, {long(120), long(121)}, {long(120), long(120) + "b"}, {"a", strings.Repeat("b", 121)}, {"a", strings.Repeat("é", 61)}, {long(1 << 14)}, {strings.Repeat("\xff", 120)},
		numerals(1025), cycle(4096, 1025), append(numerals(1024), "\x7f"), cycle(4097, 1), cycle(4097, 1024), append(times(3074, "0"), numerals(1024)[1:]...), append(times(3074, "9999"), numerals(1023)...),
	} {
		checkCorrupt(t, checksum.Seal(payload(entriesOf(values))))
	}
	// Each word is longer by one than the word before it, which adds up to much more than there are bytes.
	b := putNumber(nil, 1<<17)
	for n := range 1 << 17 {
		b = append(putNumber(b, n), 1, 'a', 0)
	}
	checkCorrupt(t, checksum.Seal(b))
}

// shortPayloads returns the payloads of up to eight bytes out of 0, 1, 2, 3 and a that are
// those of lexicons.
func shortPayloads() map[string]bool {
	var entries [][]entry
	for _, w := range texts(3, "\x00", "\x01", "\x02", "\x03", "a") {
		for _, count := range []int{1, 2, 3, 4, 98} {
			entries = append(entries, []entry{{w, count}})
		}
	}
	lexicons := append([][]entry{nil}, entries...)
	for _, x := range entries {
		for _, y := range entries {
			if x[0].word < y[0].word && len(x[0].word)+len(y[0].word) < 4 {
				lexicons = append(lexicons, slices.Concat(x, y))
			}
		}
	}
	short := map[string]bool{}
	for _, l := range lexicons {
		b := payload(l)
		if len(b) <= 8 && len(bytes.Trim(b, "\x00\x01\x02\x03a")) == 0 {
			short[string(b)] = true
		}
	}
	return short
}

// What is decoded is what is encoded, and nothing else.
func TestDecodeOfAllShortPayloads(t *testing.T) {
	short := shortPayloads()
	met := 0
	for _, b := range lists[byte](8, 0, 1, 2, 3, 'a') {
		sealed := checksum.Seal(b)
		if !short[string(b)] {
			checkCorrupt(t, sealed)
			continue
		}
		met++
		if x, e := lexicon.Decode(sealed); e != api.OK || !bytes.Equal(x.Encode(), sealed) {
			t.Errorf("Decode of the payload %v: %d", b, e)
		}
	}
	if met != len(short) || met < 900 {
		t.Errorf("%d payloads of %d were met", met, len(short))
	}
}

func TestDecodeOfChangedBytes(t *testing.T) {
	for _, values := range [][]string{nil, {""}, {"b", "a", "ab", "a"}, {"è", "é", "éa", "😀"}, append(times(300, "man"), "many", "", "mat"), {long(120), long(119)}} {
		x, _ := built(t, values...)
		b := x.Encode()
		for n := range b {
			checkCorrupt(t, b[:n])
			for bit := range 8 {
				changed := slices.Clone(b)
				changed[n] ^= 1 << bit
				checkCorrupt(t, changed)
			}
		}
		content := payload(entriesOf(values))
		for _, behind := range [][]byte{{0}, {1}, {0, 0}, {0, 0, 0}, {0, 0, 0, 0}, {0, 1, 'z', 0}, b} {
			checkCorrupt(t, append(slices.Clone(b), behind...))
			checkCorrupt(t, append(slices.Clone(behind), b...))
			checkCorrupt(t, checksum.Seal(append(slices.Clone(content), behind...)))
		}
		for n := range content {
			checkCorrupt(t, checksum.Seal(content[:n]))
		}
	}
}

func TestCodesAreNewMemory(t *testing.T) {
	values := []string{"b", "a", "ab", "a"}
	x, _ := built(t, values...)
	first, second := x.Encode(), x.Encode()
	want := slices.Clone(second)
	room := append(make([]byte, 0, 64), second...)
	y, e := lexicon.Decode(room)
	if e != api.OK || !bytes.Equal(room, want) || bytes.ContainsFunc(room[len(room):64], func(r rune) bool { return r != 0 }) {
		t.Fatalf("the argument is %v now; %d", room[:64], e)
	}
	for _, b := range [][]byte{first[:cap(first)], room[:64]} {
		for i := range b {
			b[i] = 9
		}
	}
	for i, z := range []*lexicon.Lexicon{x, y} {
		if got := z.Encode(); !bytes.Equal(got, want) || !bytes.Equal(second, want) {
			t.Errorf("%d: Encode = %v, and %v before; expected %v", i, got, second, want)
		}
		checkState(t, z, values, []string{"", "a", "b"})
	}
}

func FuzzLexicon(f *testing.F) {
	f.Add("the old man the boats", "man", []byte{3, 0, 1, 'a', 1, 1, 1, 'b', 0, 0, 1, 'b', 0})
	f.Add("é è  éa", "\xa9", []byte{2, 0, 2, 0xC3, 0xA8, 0, 1, 1, 0xA9, 3})
	f.Fuzz(func(t *testing.T, text, probe string, second []byte) {
		values := strings.Split(strings.ToValidUTF8(text[:min(len(text), 90)], "?"), " ")
		checkLexicon(t, values, []string{probe, text, ""})
		x, _ := built(t, values...)
		y, e := lexicon.Decode(checksum.Seal(second))
		if e == api.ErrCorrupt && y == nil {
			return
		}
		if e != api.OK || !bytes.Equal(y.Encode(), checksum.Seal(second)) {
			t.Fatalf("Decode of the payload %v: %d", second, e)
		}
		checkMerge(t, x, y)
	})
}
