package huffman_test

import (
	"bytes"
	"math"
	"slices"
	"strings"
	"testing"

	"corpora/api"
	"corpora/huffman"
)

// P14.4

// checkEncode compares Encode with the reference for lengths that are valid.
func checkEncode(t *testing.T, lengths, symbols []int) {
	t.Helper()
	lengthsBefore, symbolsBefore := slices.Clone(lengths), slices.Clone(symbols)
	b, n, e := huffman.Encode(lengths, symbols)
	if !slices.Equal(lengths, lengthsBefore) || !slices.Equal(symbols, symbolsBefore) {
		t.Fatalf("the arguments have changed from %v and %v to %v and %v", lengthsBefore, symbolsBefore, lengths, symbols)
	}
	text, ok := encoded(textsOf(lengths), symbols)
	want := api.OK
	switch {
	case len(symbols) > 4096:
		text, want = "", api.ErrLimit
	case !ok:
		want = api.ErrRange
	}
	if e != want || n != len(text) || !bytes.Equal(b, pack(text, '0')) {
		t.Fatalf("Encode(%.200v, %.200v) = %v, %d, %d; expected %s, %d", lengths, symbols, b, n, e, text, want)
	}
}

// checkDecode compares Decode of a text with the reference for lengths that are valid. What
// follows the bits does not matter.
func checkDecode(t *testing.T, lengths []int, text string, count int) {
	t.Helper()
	want, e := decoded(textsOf(lengths), text, count)
	for _, b := range [][]byte{pack(text, '0'), append(pack(text, '1'), 0xFF, 0)} {
		before := slices.Clone(b)
		got, error := huffman.Decode(lengths, b, len(text), count)
		if error != e || !slices.Equal(got, want) {
			t.Fatalf("Decode(%v, %s, %d) = %v, %d; expected %v, %d", lengths, text, count, got, error, want, e)
		}
		if !bytes.Equal(b, before) {
			t.Fatalf("the argument has changed from %v to %v", before, b)
		}
	}
}

// checkStream encodes symbols and decodes them, also with bits changed.
func checkStream(t *testing.T, lengths, symbols []int) {
	t.Helper()
	checkEncode(t, lengths, symbols)
	b, n, e := huffman.Encode(lengths, symbols)
	if e != api.OK {
		t.Fatalf("Encode(%v, %v): %d", lengths, symbols, e)
	}
	if got, e := huffman.Decode(lengths, b, n, len(symbols)); e != api.OK || !slices.Equal(got, symbols) {
		t.Fatalf("Decode of the encoding of %v by %v = %v, %d", symbols, lengths, got, e)
	}
	text := unpack(b, n)
	for cut := range min(n+1, 40) {
		checkDecode(t, lengths, text[:n-cut], len(symbols))
		checkDecode(t, lengths, text[cut:], len(symbols))
		checkDecode(t, lengths, text+strings.Repeat("0", cut), len(symbols))
		checkDecode(t, lengths, text, max(0, len(symbols)-cut))
	}
}

func TestEncode(t *testing.T) {
	lengths := []int{1, 2, 3, 3, 0}
	for _, c := range []struct {
		lengths, symbols []int
		want             []byte
		bits             int
	}{
		{lengths, []int{3, 0}, []byte{224}, 4}, {lengths, nil, nil, 0}, {nil, nil, nil, 0}, {[]int{0, 0}, nil, nil, 0}, {lengths, []int{0}, []byte{0}, 1}, {lengths, []int{1}, []byte{128}, 2}, {lengths, []int{2}, []byte{192}, 3},
		{lengths, []int{3, 3, 1}, []byte{254}, 8}, {lengths, []int{3, 3, 1, 0}, []byte{254, 0}, 9}, {lengths, []int{1, 3, 2, 3}, []byte{0b10111110, 0b11100000}, 11}, {[]int{1}, []int{0, 0, 0}, []byte{0}, 3}, {[]int{0, 3}, []int{1, 1, 1}, []byte{0, 0}, 9},
		{ladder(15), []int{15, 14}, []byte{0xFF, 0xFF, 0xFF, 0xF8}, 30}, {[]int{15, 1}, []int{0, 1, 0}, []byte{0x80, 0, 0x80, 0}, 31},
	} {
		if b, n, e := huffman.Encode(c.lengths, c.symbols); e != api.OK || n != c.bits || !bytes.Equal(b, c.want) {
			t.Errorf("Encode(%v, %v) = %v, %d, %d; expected %v, %d", c.lengths, c.symbols, b, n, e, c.want, c.bits)
		}
		checkStream(t, c.lengths, c.symbols)
	}
}

func TestEncodeOfAllShortLists(t *testing.T) {
	symbols := lists(4, -1, 0, 1, 2, 3)
	for _, lengths := range slices.DeleteFunc(lists(3, 0, 1, 2, 3, 15), func(l []int) bool { return !validLengths(l) }) {
		for _, list := range symbols {
			checkEncode(t, lengths, list)
		}
	}
}

func TestErrorsOfEncode(t *testing.T) {
	checkWrong := func(want api.Errno, lengths, symbols []int) {
		t.Helper()
		if b, n, e := huffman.Encode(lengths, symbols); e != want || n != 0 || len(b) != 0 {
			t.Errorf("Encode of %d symbols, %v.., with %d lengths: %d bytes, %d, %d; expected %d", len(symbols), symbols[:min(len(symbols), 8)], len(lengths), len(b), n, e, want)
		}
	}
	lengths := []int{1, 2, 0, 3, 3, 0}
	for _, invalid := range [][]int{{1, 1, 1}, {16}, {-1}, {1, 1, 15}, times(1025, 0), times(1025, 15), append(ladder(15), 15)} {
		for _, symbols := range [][]int{nil, {0}, {-1}, {4000}, times(4096, 0), times(4097, 0), times(4097, -1)} {
			checkWrong(api.ErrArg, invalid, symbols)
		}
	}
	for _, n := range []int{4097, 4098, 1 << 16} {
		for _, symbol := range []int{0, 2, -1, 6} {
			checkWrong(api.ErrLimit, lengths, times(n, symbol))
		}
		checkWrong(api.ErrLimit, nil, times(n, 0))
	}
	for _, bad := range []int{-1, 2, 5, 6, 7, 1024, 1 << 32, math.MinInt, math.MaxInt} {
		for place := range 4 {
			checkWrong(api.ErrRange, lengths, slices.Insert([]int{4, 0, 1}, place, bad))
			checkWrong(api.ErrRange, lengths, slices.Insert(times(4095, 0), 1365*place, bad))
		}
		checkWrong(api.ErrRange, nil, []int{bad})
		checkWrong(api.ErrRange, []int{0, 0, 0}, []int{bad})
	}
}

func TestStreamsOfLimits(t *testing.T) {
	next := dice(144)
	full := lengthsOf(skewed(next, 1024, false), 15)
	for _, lengths := range [][]int{times(1024, 10), times(1024, 15), full, spread(1024, ladder(15)), ladder(15), {1}, {15}, {0, 0, 4}} {
		present := presentOf(lengths)
		for _, n := range []int{4095, 4096} {
			symbols := each(n, func(i int) int { return present[(7*i+n)%len(present)] })
			checkEncode(t, lengths, symbols)
			b, bits, e := huffman.Encode(lengths, symbols)
			got, error := huffman.Decode(lengths, b, bits, n)
			if e != api.OK || error != api.OK || !slices.Equal(got, symbols) {
				t.Errorf("%d symbols of %d: %d, %d", n, len(present), e, error)
			}
		}
		last := present[len(present)-1]
		b, bits, e := huffman.Encode(lengths, times(4096, last))
		if e != api.OK || bits != 4096*lengths[last] || len(b) != 512*lengths[last] {
			t.Errorf("4096 codes of %d bits: %d, %d", lengths[last], bits, e)
		}
	}
}

func TestDecode(t *testing.T) {
	lengths := []int{1, 2, 3, 3}
	for _, c := range []struct {
		lengths []int
		text    string
		count   int
		want    []int
		e       api.Errno
	}{
		{lengths, "1110", 2, []int{3, 0}, api.OK}, {lengths, "", 0, nil, api.OK}, {nil, "", 0, nil, api.OK}, {[]int{0}, "", 0, nil, api.OK}, {lengths, "11010111000", 6, []int{2, 1, 3, 0, 0, 0}, api.OK},
		// The bits are used up, or end within a code.
		{lengths, "", 1, nil, api.ErrTruncated}, {lengths, "1", 1, nil, api.ErrTruncated}, {lengths, "11", 1, nil, api.ErrTruncated}, {lengths, "111", 2, nil, api.ErrTruncated}, {lengths, "1111", 2, nil, api.ErrTruncated}, {nil, "", 1, nil, api.ErrTruncated}, {[]int{0, 0}, "", 3, nil, api.ErrTruncated},
		{[]int{2, 2}, "0", 1, nil, api.ErrTruncated}, {ladder(15), strings.Repeat("1", 14), 1, nil, api.ErrTruncated}, {[]int{15}, strings.Repeat("0", 14), 1, nil, api.ErrTruncated},
		// No code begins with the bits, which may be certain at the first one or at the last one.
		{nil, "0", 1, nil, api.ErrCorrupt}, {nil, "1", 1, nil, api.ErrCorrupt}, {[]int{0, 0}, "0", 1, nil, api.ErrCorrupt}, {[]int{1}, "1", 1, nil, api.ErrCorrupt}, {[]int{1}, "01", 2, nil, api.ErrCorrupt}, {[]int{2, 2}, "1", 1, nil, api.ErrCorrupt}, {[]int{2, 2}, "0110", 2, nil, api.ErrCorrupt},
		{[]int{1, 3}, "11", 1, nil, api.ErrCorrupt}, {[]int{1, 3}, "101", 1, nil, api.ErrCorrupt}, {[]int{1, 3}, "10", 1, nil, api.ErrTruncated}, {[]int{1, 3}, "100", 1, []int{1}, api.OK}, {ladder(15)[:15], strings.Repeat("1", 15), 1, nil, api.ErrCorrupt}, {ladder(15)[:15], strings.Repeat("1", 14), 1, nil, api.ErrTruncated}, {[]int{15}, strings.Repeat("0", 14) + "1", 1, nil, api.ErrCorrupt},
		// Bits are left.
		{lengths, "1110", 1, nil, api.ErrCorrupt}, {lengths, "1", 0, nil, api.ErrCorrupt}, {nil, "0", 0, nil, api.ErrCorrupt}, {lengths, "00000000", 7, nil, api.ErrCorrupt}, {lengths, "000000000", 8, nil, api.ErrCorrupt},
	} {
		got, e := huffman.Decode(c.lengths, pack(c.text, '0'), len(c.text), c.count)
		if e != c.e || !slices.Equal(got, c.want) {
			t.Errorf("Decode(%v, %s, %d) = %v, %d; expected %v, %d", c.lengths, c.text, c.count, got, e, c.want, c.e)
		}
		checkDecode(t, c.lengths, c.text, c.count)
	}
}

func TestDecodeOfAllShortStreams(t *testing.T) {
	var texts []string
	for _, digits := range lists[byte](7, '0', '1') {
		texts = append(texts, string(digits))
	}
	for _, lengths := range slices.DeleteFunc(lists(4, 0, 1, 2, 3), func(l []int) bool { return !validLengths(l) }) {
		for _, text := range texts {
			for count := range 5 {
				checkDecode(t, lengths, text, count)
			}
		}
	}
}

func TestDecodeOfScatteredStreams(t *testing.T) {
	next := dice(145)
	for range 300 {
		lengths := lengthsOf(skewed(next, 2+next(40), next(2) == 0), 6+next(10))
		if next(2) == 0 {
			lengths[next(len(lengths))] = 0
		}
		present := presentOf(lengths)
		if len(present) > 0 {
			checkStream(t, lengths, each(next(60), func(int) int { return present[next(len(present))] }))
		}
		text := unpack([]byte{byte(next(256)), byte(next(256)), byte(next(256)), byte(next(256)), byte(next(256))}, next(41))
		for count := range 25 {
			checkDecode(t, lengths, text, count)
		}
	}
}

func TestErrorsOfDecode(t *testing.T) {
	checkWrong := func(lengths []int, b []byte, bits, count int) {
		t.Helper()
		if got, e := huffman.Decode(lengths, b, bits, count); e != api.ErrArg || len(got) != 0 {
			t.Errorf("Decode(%d lengths, %v, %d, %d) = %v, %d; expected ErrArg", len(lengths), b, bits, count, got, e)
		}
	}
	for _, invalid := range [][]int{{1, 1, 1}, {16}, {-1}, {1, 1, 15}, times(1025, 0), times(1025, 15), append(ladder(15), 15)} {
		checkWrong(invalid, nil, 0, 0)
		checkWrong(invalid, nil, 0, 1)
		checkWrong(invalid, []byte{0}, 8, 8)
		checkWrong(invalid, []byte{0}, 9, 8)
	}
	lengths := []int{1, 2, 3, 3}
	for _, b := range [][]byte{nil, {0}, {255, 255}, make([]byte, 2, 16)} {
		for _, bits := range []int{-1, -8, 8*len(b) + 1, 8*len(b) + 8, math.MinInt, math.MaxInt} {
			for _, count := range []int{0, 1, 8, 4097} {
				checkWrong(lengths, b, bits, count)
			}
		}
		for _, count := range []int{-1, 4097, 1 << 32, math.MinInt, math.MaxInt} {
			for bits := range 8*len(b) + 1 {
				checkWrong(lengths, b, bits, count)
			}
		}
	}
	zeros := make([]byte, 1024)
	checkWrong(lengths, zeros, 4097, 4097)
	if got, e := huffman.Decode(lengths, zeros, 4096, 4096); e != api.OK || !slices.Equal(got, times(4096, 0)) {
		t.Errorf("Decode of 4096 symbols: %d", e)
	}
	if got, e := huffman.Decode(lengths, zeros, 4097, 4096); e != api.ErrCorrupt || len(got) != 0 {
		t.Errorf("Decode of 4096 symbols and a bit: %d", e)
	}
	if got, e := huffman.Decode(lengths, zeros, 4095, 4096); e != api.ErrTruncated || len(got) != 0 {
		t.Errorf("Decode of 4095 symbols of 4096: %d", e)
	}
}

func TestStreamsAreNewMemory(t *testing.T) {
	lengths, symbols := roomy([]int{1, 2, 3, 3}, 8), roomy([]int{3, 0, 1}, 8)
	first, n, _ := huffman.Encode(lengths, symbols)
	second, _, _ := huffman.Encode(lengths, symbols)
	room := append(make([]byte, 0, 16), second...)
	got, e := huffman.Decode(lengths, room, n, 3)
	for _, b := range [][]byte{first[:cap(first)], room[:16]} {
		for i := range b {
			b[i] = 9
		}
	}
	other, _ := huffman.Decode(lengths, second, n, 3)
	for i := range other[:cap(other)] {
		other[:cap(other)][i] = 9
	}
	if n != 6 || e != api.OK || !bytes.Equal(second, []byte{0xE8}) || !slices.Equal(got, []int{3, 0, 1}) {
		t.Error("the results share memory:", second, got)
	}
	if !slices.Equal(lengths[:12], []int{1, 2, 3, 3, 7, 7, 7, 7, 7, 7, 7, 7}) || !slices.Equal(symbols[:11], []int{3, 0, 1, 7, 7, 7, 7, 7, 7, 7, 7}) {
		t.Error("the arguments have changed:", lengths[:12], symbols[:11])
	}
}

func FuzzHuffman(f *testing.F) {
	f.Add([]byte{5, 2, 1, 1}, 2, []byte{1, 2, 3, 3}, []byte{224}, 4, 2)
	f.Add([]byte{1, 0, 255, 1, 1}, 15, []byte{0, 15, 2}, []byte{0x40, 0}, 15, 1)
	f.Fuzz(func(t *testing.T, numbers []byte, limit int, sizes, b []byte, bits, count int) {
		numbers, sizes = numbers[:min(len(numbers), 40)], sizes[:min(len(sizes), 40)]
		counts := each(len(numbers), func(i int) int { return int(numbers[i]) * int(numbers[i]) / 16 })
		if limit = max(1, min(limit, 15)); len(leavesOf(counts)) <= 1<<limit {
			checkCodes(t, checkLengths(t, counts, limit))
		}
		lengths := each(len(sizes), func(i int) int { return int(sizes[i]) - 1 })
		checkCodes(t, lengths)
		if !validLengths(lengths) {
			return
		}
		checkEncode(t, lengths, each(len(b), func(i int) int { return int(b[i]) - 1 }))
		checkDecode(t, lengths, unpack(b, max(0, min(bits, 8*len(b)))), max(0, min(count, 4096)))
	})
}
