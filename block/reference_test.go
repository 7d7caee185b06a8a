package block_test

import (
	"bytes"
	"slices"

	"corpora/api"
)

// The reference divides instead of shifting, keeps bits as a text of the digits 0 and 1, and
// finds the best width by writing the encodings with all widths.

const greatest = 1<<31 - 1

// uvarint returns a number in groups of seven bits.
func uvarint(v int) []byte {
	var b []byte
	for ; v > 127; v /= 128 {
		b = append(b, byte(128+v%128))
	}
	return append(b, byte(v))
}

// digitsOf returns the lowest bits of numbers as a text.
func digitsOf(values []int, width int) string {
	digits := make([]byte, 0, len(values)*width)
	for _, v := range values {
		for place := 1 << width / 2; place > 0; place /= 2 {
			digits = append(digits, byte('0'+v/place%2))
		}
	}
	return string(digits)
}

// numberOf returns a text of digits as a number.
func numberOf(digits string) int {
	v := 0
	for i := range len(digits) {
		v = 2*v + int(digits[i]-'0')
	}
	return v
}

// bytesOf returns a text of digits as bytes.
func bytesOf(digits string) []byte {
	var b []byte
	for digits += "0000000"; len(digits) >= 8; digits = digits[8:] {
		b = append(b, byte(numberOf(digits[:8])))
	}
	return b
}

// encoded returns the encoding of numbers with a width.
func encoded(values []int, width int) []byte {
	var exceptions [][]byte
	last := -1
	for i, v := range values {
		if v >= 1<<width {
			exceptions = append(exceptions, uvarint(i-last), uvarint(v/(1<<width)))
			last = i
		}
	}
	return slices.Concat(uvarint(len(values)), uvarint(width), uvarint(len(exceptions)/2), bytesOf(digitsOf(values, width)), slices.Concat(exceptions...))
}

// bestOf returns the width of the shortest encoding, and this encoding.
func bestOf(values []int) (int, []byte) {
	width, best := 0, encoded(values, 0)
	for w := 1; w <= 31; w++ {
		if b := encoded(values, w); len(b) < len(best) {
			width, best = w, b
		}
	}
	return width, best
}

// errorOf returns the error of a list of numbers.
func errorOf(values []int) api.Errno {
	if len(values) > 128 {
		return api.ErrLimit
	}
	if slices.ContainsFunc(values, func(v int) bool { return v < 0 || v > greatest }) {
		return api.ErrRange
	}
	return api.OK
}

// cut returns the number with which bytes begin and what follows it, and false if there is none up to most.
func cut(b []byte, most int) (int, []byte, bool) {
	end := slices.IndexFunc(b, func(x byte) bool { return x < 128 }) + 1
	if end == 0 || end > 5 {
		return 0, nil, false
	}
	v := 0
	for i := end - 1; i >= 0; i-- {
		v = 128*v + int(b[i]%128)
	}
	return v, b[end:], v <= most
}

// decoded returns the numbers of which bytes are the shortest encoding, and false if there are none.
func decoded(b []byte) ([]int, bool) {
	count, rest, ok := cut(b, 128)
	if !ok {
		return nil, false
	}
	width, rest, ok := cut(rest, 31)
	if !ok {
		return nil, false
	}
	exceptions, rest, ok := cut(rest, count)
	size := (count*width + 7) / 8
	if !ok || size > len(rest) {
		return nil, false
	}
	low := digitsOf(each(size, func(i int) int { return int(rest[i]) }), 8)
	rest = rest[size:]
	values := each(count, func(i int) int { return numberOf(low[i*width : (i+1)*width]) })
	for i := -1; exceptions > 0; exceptions-- {
		var gap, high int
		if gap, rest, ok = cut(rest, count-1-i); !ok || gap == 0 {
			return nil, false
		}
		i += gap
		if high, rest, ok = cut(rest, greatest/(1<<width)); !ok {
			return nil, false
		}
		values[i] += high * (1 << width)
	}
	if !bytes.Equal(encoded(values, width), b) {
		return nil, false
	}
	best, _ := bestOf(values)
	return values, width == best
}
