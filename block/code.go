package block

import (
	"corpora/api"
	"corpora/bitio"
)

// encode returns the encoding with a width.
func encode(values []int, width int) []byte {
	low := bitio.NewWriter()
	var high []byte
	exceptions, before := 0, -1
	for i, v := range values {
		low.Bits(uint64(v)&(1<<width-1), width)
		if v>>width == 0 {
			continue
		}
		high = putNumbers(high, i-before, v>>width)
		exceptions++
		before = i
	}
	b := putNumbers(nil, len(values), width, exceptions)
	b = append(b, low.Bytes()...)
	return append(b, high...)
}

func putNumbers(b []byte, numbers ...int) []byte {
	for _, n := range numbers {
		b = bitio.PutUvarint(b, uint64(n))
	}
	return b
}

// reader takes the parts of an encoding from the beginning of its rest.
type reader struct{ rest []byte }

// number reads a number, and tells whether it is from least to most.
func (r *reader) number(least, most int) (int, bool) {
	v, n, e := bitio.Uvarint(r.rest)
	if e != api.OK || v < uint64(least) || v > uint64(most) {
		return 0, false
	}
	r.rest = r.rest[n:]
	return int(v), true
}

// low reads the lowest bits of so many numbers, and tells whether there are enough of them.
func (r *reader) low(count, width int) ([]int, bool) {
	stream, e := bitio.NewReader(r.rest, count*width)
	if e != api.OK {
		return nil, false
	}
	values := make([]int, count)
	for i := range values {
		v, _ := stream.Bits(width)
		values[i] = int(v)
	}
	r.rest = r.rest[lowSize(count, width):]
	return values, true
}
