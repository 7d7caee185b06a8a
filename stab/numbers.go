package stab

import (
	"math"
	"slices"

	"corpora/api"
	"corpora/bitio"
)

// numbersOf returns the numbers that stand for spans in an encoding.
func numbersOf(l []api.Span) []int {
	numbers := []int{len(l)}
	for _, s := range l {
		numbers = append(numbers, s.Begin, s.End-s.Begin-1)
	}
	return numbers
}

// spansOf returns the spans for which numbers stand, which need not be valid, and false
// if there are too few numbers or too many.
func spansOf(numbers []int) ([]api.Span, bool) {
	if len(numbers)%2 == 0 || numbers[0] != len(numbers)/2 {
		return nil, false
	}
	var l []api.Span
	for pair := range slices.Chunk(numbers[1:], 2) {
		l = append(l, api.Span{Begin: pair[0], End: pair[0] + pair[1] + 1})
	}
	return l, true
}

// write returns the encodings of numbers.
func write(numbers []int) []byte {
	var b []byte
	for _, v := range numbers {
		// To append to b itself, PutUvarint would have to copy it for each number.
		b = append(b, bitio.PutUvarint(nil, uint64(v))...)
	}
	return b
}

// read returns the numbers of encodings, and none if some bytes are no encoding or a
// number is greater than any of an index.
func read(b []byte) []int {
	var numbers []int
	for len(b) > 0 {
		v, size, e := bitio.Uvarint(b)
		if e != api.OK || v > math.MaxInt32 {
			return nil
		}
		numbers = append(numbers, int(v))
		b = b[size:]
	}
	return numbers
}
