package huffman_test

import (
	"math"
	"slices"
	"strings"
	"testing"

	"corpora/api"
	"corpora/huffman"
)

// P14.3

// checkCodes compares Codes of any lengths with the reference.
func checkCodes(t *testing.T, lengths []int) {
	t.Helper()
	before := slices.Clone(lengths)
	got, e := huffman.Codes(lengths)
	if !slices.Equal(lengths, before) {
		t.Fatalf("the argument has changed from %v to %v", before, lengths)
	}
	if !validLengths(lengths) {
		if e != api.ErrArg || len(got) != 0 {
			t.Fatalf("Codes of %d lengths, %v.. = %d codes, %d; expected ErrArg", len(lengths), lengths[:min(len(lengths), 20)], len(got), e)
		}
		return
	}
	var want []uint64
	for _, text := range textsOf(lengths) {
		want = append(want, numerical(text))
	}
	if e != api.OK || !slices.Equal(got, want) {
		t.Fatalf("Codes(%v) = %v, %d; expected %v", lengths, got, e, want)
	}
}

func TestCodes(t *testing.T) {
	for _, c := range []struct {
		lengths []int
		want    []uint64
	}{
		{[]int{1, 2, 3, 3}, []uint64{0, 2, 6, 7}}, {nil, nil}, {[]int{0}, []uint64{0}}, {[]int{0, 0, 0}, []uint64{0, 0, 0}}, {[]int{1}, []uint64{0}}, {[]int{15}, []uint64{0}}, {[]int{1, 1}, []uint64{0, 1}},
		{[]int{3, 3, 2, 1}, []uint64{6, 7, 2, 0}}, {[]int{3, 0, 1, 0, 3}, []uint64{4, 0, 0, 0, 5}}, {[]int{2, 2, 2, 2}, []uint64{0, 1, 2, 3}}, {[]int{2, 2}, []uint64{0, 1}}, {[]int{4, 2}, []uint64{4, 0}}, {[]int{15, 1, 15}, []uint64{1 << 14, 0, 1<<14 + 1}},
		{[]int{5, 5, 3, 5, 2}, []uint64{12, 13, 2, 14, 0}}, {ladder(15), []uint64{0, 2, 6, 14, 30, 62, 126, 254, 510, 1022, 2046, 4094, 8190, 16382, 32766, 32767}},
	} {
		if got, e := huffman.Codes(c.lengths); e != api.OK || !slices.Equal(got, c.want) {
			t.Errorf("Codes(%v) = %v, %d; expected %v", c.lengths, got, e, c.want)
		}
		checkCodes(t, c.lengths)
	}
}

func TestCodesOfAllShortLists(t *testing.T) {
	for _, lengths := range append(lists(6, 0, 1, 2, 3), lists(4, -1, 0, 1, 2, 5, 14, 15, 16)...) {
		checkCodes(t, lengths)
	}
}

func TestCodesOfLimits(t *testing.T) {
	for n := 1; n <= 15; n++ {
		full := times(min(1<<n, 1024), n)
		for i, lengths := range [][]int{ladder(n), ladder(n)[:n], full, full[1:], spread(1024, ladder(n))} {
			if !validLengths(lengths) {
				t.Fatal(n, i)
			}
			checkCodes(t, lengths)
			// There is room for one more code if it leaves a gap as long as that code, and for more absent symbols.
			for more := range 17 {
				checkCodes(t, append(slices.Clone(lengths), more))
				checkCodes(t, append([]int{more}, lengths...))
			}
		}
	}
	for _, lengths := range [][]int{times(1024, 0), times(1024, 15), times(1025, 0), times(1025, 15), append(ladder(15), times(1008, 0)...), append(ladder(15), times(1009, 0)...), times(1<<16, 0), times(1<<16, 1)} {
		checkCodes(t, lengths)
	}
}

func TestErrorsOfCodes(t *testing.T) {
	for _, bad := range []int{-1, -15, 16, 17, 31, 63, 64, 1 << 32, math.MinInt, math.MaxInt} {
		for place := range 4 {
			checkCodes(t, slices.Insert([]int{2, 0, 3}, place, bad))
			checkCodes(t, slices.Insert(times(1023, 0), 341*place, bad))
		}
	}
}

// The codes of lengths are in ascending order as texts, and none begins with another one.
func TestNoCodeBeginsAnotherOne(t *testing.T) {
	next := dice(143)
	for range 200 {
		lengths := lengthsOf(skewed(next, 1+next(64), next(2) == 0), 6+next(10))
		if next(2) == 0 && len(lengths) > 1 { // not all words are used
			lengths = lengths[1+next(len(lengths)-1):]
		}
		checkCodes(t, lengths)
		codes, _ := huffman.Codes(lengths)
		var texts []string
		for symbol, n := range lengths {
			if n > 0 {
				texts = append(texts, unpack([]byte{byte(codes[symbol] << (16 - n) >> 8), byte(codes[symbol] << (16 - n))}, n))
			} else if codes[symbol] != 0 {
				t.Fatalf("the absent symbol %d of %v has the code %d", symbol, lengths, codes[symbol])
			}
		}
		slices.Sort(texts)
		for i := 1; i < len(texts); i++ {
			if strings.HasPrefix(texts[i], texts[i-1]) || len(texts[i]) < len(texts[i-1]) {
				t.Fatalf("the lengths %v have the codes %s and %s", lengths, texts[i-1], texts[i])
			}
		}
	}
}

func TestCodesAreNewMemory(t *testing.T) {
	lengths := roomy([]int{1, 2, 3, 3}, 8)
	first, _ := huffman.Codes(lengths)
	second, _ := huffman.Codes(lengths)
	for i := range first[:cap(first)] {
		first[:cap(first)][i] = 9
	}
	if !slices.Equal(second, []uint64{0, 2, 6, 7}) || !slices.Equal(lengths[:12], []int{1, 2, 3, 3, 7, 7, 7, 7, 7, 7, 7, 7}) {
		t.Error("the codes share memory:", second, lengths[:12])
	}
}
