package bitio_test

import (
	"strconv"
	"strings"
	"testing"

	"corpora/api"
	"corpora/bitio"
)

// The reference keeps a bit stream as a text of the digits 0 and 1.

// digits returns the n lowest binary digits of v.
func digits(v uint64, n int) string {
	s := strings.Repeat("0", 64) + strconv.FormatUint(v, 2)
	return s[len(s)-n:]
}

func unaryCode(v int) string {
	return strings.Repeat("0", v) + "1"
}

func gammaCode(v uint64) string {
	s := strconv.FormatUint(v, 2)
	return strings.Repeat("0", len(s)-1) + s
}

func deltaCode(v uint64) string {
	s := strconv.FormatUint(v, 2)
	return gammaCode(uint64(len(s))) + s[1:]
}

// pack returns a text of digits as bytes, filled up with bits 0.
func pack(s string) []byte {
	b := make([]byte, (len(s)+7)/8)
	for i, digit := range []byte(s) {
		b[i/8] = 2*b[i/8] + digit - '0'
	}
	for i := len(s); i%8 != 0; i++ {
		b[i/8] *= 2
	}
	return b
}

// unpack returns the first n bits of b as digits.
func unpack(b []byte, n int) string {
	var s strings.Builder
	for _, x := range b {
		s.WriteString(digits(uint64(x), 8))
	}
	return s.String()[:n]
}

// result is what a reading method returns.
type result struct {
	v uint64
	n int // bits that are read
	e api.Errno
}

func failure(e api.Errno) result {
	return result{e: e}
}

func readBits(s string, n int) result {
	if n < 0 || n > 64 {
		return failure(api.ErrArg)
	}
	if n > len(s) {
		return failure(api.ErrTruncated)
	}
	v, _ := strconv.ParseUint("0"+s[:n], 2, 64)
	return result{v, n, api.OK}
}

func readUnary(s string, most int) result {
	zeros := strings.IndexByte(s+"1", '1')
	if zeros > most {
		return failure(api.ErrCorrupt)
	}
	if zeros == len(s) {
		return failure(api.ErrTruncated)
	}
	return result{uint64(zeros), zeros + 1, api.OK}
}

func readGamma(s string) result {
	zeros := readUnary(s, 63)
	if zeros.e != api.OK {
		return zeros
	}
	size := int(zeros.v)
	got := readBits(s[size:], size+1)
	if got.e == api.OK {
		got.n += size
	}
	return got
}

func readDelta(s string) result {
	size := readGamma(s)
	if size.e == api.OK && size.v > 64 {
		return failure(api.ErrCorrupt)
	}
	if size.e != api.OK {
		return size
	}
	got := readBits("1"+s[size.n:], int(size.v))
	if got.e == api.OK {
		got.n += size.n - 1
	}
	return got
}

// method reads a number with a method of the Reader and with the reference.
type method struct {
	name string
	read func(r *bitio.Reader) (uint64, api.Errno)
	want func(s string) result
}

func methods() []method {
	list := []method{
		{"Gamma", (*bitio.Reader).Gamma, readGamma},
		{"Delta", (*bitio.Reader).Delta, readDelta},
		{"Unary", func(r *bitio.Reader) (uint64, api.Errno) {
			v, e := r.Unary()
			return uint64(v), e
		}, func(s string) result { return readUnary(s, 4096) }},
	}
	for _, n := range []int{-1, 0, 1, 2, 7, 8, 9, 63, 64, 65} {
		list = append(list, method{"Bits " + strconv.Itoa(n),
			func(r *bitio.Reader) (uint64, api.Errno) { return r.Bits(n) },
			func(s string) result { return readBits(s, n) }})
	}
	return list
}

// compareAt reads with every method at a position of s and checks what it returns and where it stops.
func compareAt(t *testing.T, r *bitio.Reader, s string, pos int) {
	t.Helper()
	for _, m := range methods() {
		if e := r.Seek(pos); e != api.OK || r.Pos() != pos {
			t.Fatalf("Seek(%d) in %d bits = %d; Pos() = %d", pos, len(s), e, r.Pos())
		}
		v, e := m.read(r)
		want := m.want(s[pos:])
		if v != want.v || e != want.e || r.Pos() != pos+want.n {
			t.Fatalf("%s at %d of %s = %d, %d, to %d; expected %v", m.name, pos, s, v, e, r.Pos(), want)
		}
	}
}

// numbers returns numbers of all lengths: those at the ends of each length and some between them.
func numbers() []uint64 {
	var list []uint64
	for n := range 64 {
		top := uint64(1) << n
		for _, v := range []uint64{top, top | 1, top | top>>1, top | 0x5A5A5A5A5A5A5A5A%top, top | (top - 1)} {
			list = append(list, v)
		}
	}
	return list
}

// random returns a function that returns the numbers of a fixed sequence without an obvious order.
func random(seed uint64) func(below int) int {
	state := seed
	return func(below int) int {
		state = state*6364136223846793005 + 1442695040888963407
		return int(state >> 33 % uint64(below))
	}
}
