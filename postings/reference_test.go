package postings_test

import (
	"bytes"
	"fmt"
	"math"
	"slices"
	"strconv"
	"strings"

	"corpora/api"
)

// The reference goes through all positions of a list, and keeps bits as a text of the digits 0 and 1.

// errorOf returns the error of a list of positions.
func errorOf(positions []int) api.Errno {
	if len(positions) > 4096 {
		return api.ErrLimit
	}
	for i, p := range positions {
		switch {
		case p < 0 || p > most:
			return api.ErrRange
		case i > 0 && positions[i-1] >= p:
			return api.ErrOrder
		}
	}
	return api.OK
}

// rankOf returns how many positions are less than p.
func rankOf(positions []int, p int) int {
	rank := 0
	for _, x := range positions {
		if x < p {
			rank++
		}
	}
	return rank
}

// found is what Seek returns.
type found struct {
	pos, rank int
	ok        bool
}

// sought returns what Seek(p) finds.
func sought(positions []int, p int) found {
	i := slices.IndexFunc(positions, func(x int) bool { return x >= p })
	if i < 0 {
		return found{0, len(positions), false}
	}
	return found{positions[i], i, true}
}

// uvarint returns a number in groups of seven bits.
func uvarint(v int) []byte {
	var b []byte
	for ; v > 127; v /= 128 {
		b = append(b, byte(128+v%128))
	}
	return append(b, byte(v))
}

// bytesOf returns a text of digits as bytes.
func bytesOf(digits string) []byte {
	var b []byte
	for digits += "0000000"; len(digits) >= 8; digits = digits[8:] {
		x, _ := strconv.ParseUint(digits[:8], 2, 8)
		b = append(b, byte(x))
	}
	return b
}

// delta returns the digits of a gap.
func delta(gap uint64) string {
	digits := strconv.FormatUint(gap, 2)
	size := strconv.FormatInt(int64(len(digits)), 2)
	return strings.Repeat("0", len(size)-1) + size + digits[1:]
}

// code is what an encoding consists of.
type code struct {
	size, bits int
	digits     string
	skips      []int
}

// codeOf returns the code of positions.
func codeOf(positions []int) code {
	var digits strings.Builder
	var begins, skips []int
	for i, p := range positions {
		gap := p + 1
		if i > 0 {
			gap = p - positions[i-1]
		}
		begins = append(begins, digits.Len())
		digits.WriteString(delta(uint64(gap)))
		if i > 0 && i%16 == 0 {
			skips = append(skips, p-positions[i-16], begins[i]-begins[i-16])
		}
	}
	return code{len(positions), digits.Len(), digits.String(), skips}
}

// payload returns the bytes of a code without their sum.
func (c code) payload() []byte {
	b := slices.Concat(uvarint(c.size), uvarint(c.bits), bytesOf(c.digits))
	for _, n := range c.skips {
		b = append(b, uvarint(n)...)
	}
	return b
}

// payloadOf returns the encoding of positions without its sum.
func payloadOf(positions []int) []byte { return codeOf(positions).payload() }

// cut returns the number with which bytes begin, or a great one if there is none, and what follows it.
func cut(b []byte) (int, []byte) {
	end := slices.IndexFunc(b, func(x byte) bool { return x < 128 }) + 1
	if end == 0 || end > 5 {
		return math.MaxInt32, nil
	}
	v := 0
	for i := end - 1; i >= 0; i-- {
		v = 128*v + int(b[i]%128)
	}
	return v, b[end:]
}

// gapAhead returns the gap with which digits begin, and the digits behind it; false if there is none, or none up to 2^31.
func gapAhead(digits string) (int, string, bool) {
	zeros := strings.IndexByte(digits, '1')
	if zeros < 0 || zeros > 5 || len(digits) < 2*zeros+1 {
		return 0, "", false
	}
	size, _ := strconv.ParseInt(digits[zeros:2*zeros+1], 2, 64)
	end := 2*zeros + int(size)
	if len(digits) < end || size > 32 {
		return 0, "", false
	}
	gap, _ := strconv.ParseInt("1"+digits[2*zeros+1:end], 2, 64)
	return int(gap), digits[end:], gap <= 1<<31
}

// decoded returns the positions of which bytes are the encoding, and false if there are none.
func decoded(b []byte) ([]int, bool) {
	size, rest := cut(b)
	bits, rest := cut(rest)
	var all strings.Builder
	for _, x := range rest {
		fmt.Fprintf(&all, "%08b", x)
	}
	if size > 4096 || bits > all.Len() {
		return nil, false
	}
	digits := all.String()[:bits]
	var positions []int
	for p, ok := -1, true; len(positions) < size; positions = append(positions, p) {
		var gap int
		gap, digits, ok = gapAhead(digits)
		if p += gap; !ok || p > most {
			return nil, false
		}
	}
	return positions, bytes.Equal(payloadOf(positions), b)
}
