package bitio

import (
	"slices"

	"corpora/api"
)

const maxGammaZeros = wordBits - 1

// Reader reads a bit stream.
type Reader struct {
	stream
	pos int
}

// NewReader returns a Reader of the first n bits of b.
func NewReader(b []byte, n int) (*Reader, api.Errno) {
	if n < 0 || n > byteBits*len(b) {
		return nil, api.ErrArg
	}
	used := b[:(n+byteBits-1)/byteBits]
	return &Reader{stream: stream{bytes: slices.Clone(used), size: n}}, api.OK
}

// Bits reads n bits.
func (r *Reader) Bits(n int) (uint64, api.Errno) {
	if n < 0 || n > wordBits {
		return 0, api.ErrArg
	}
	if n > r.left(r.pos) {
		return 0, api.ErrTruncated
	}
	var v uint64
	for range n {
		v = v<<1 | r.bit(r.pos)
		r.pos++
	}
	return v, api.OK
}

// Unary reads a number in unary.
func (r *Reader) Unary() (int, api.Errno) {
	v, e := r.whole(func() (uint64, api.Errno) { return r.zeros(maxUnary) })
	return int(v), e
}

// Gamma reads a number in the gamma code.
func (r *Reader) Gamma() (uint64, api.Errno) {
	return r.whole(r.gamma)
}

// Delta reads a number in the delta code.
func (r *Reader) Delta() (uint64, api.Errno) {
	return r.whole(r.delta)
}

// Pos returns the position.
func (r *Reader) Pos() int {
	return r.pos
}

// Seek moves to a position.
func (r *Reader) Seek(pos int) api.Errno {
	if pos < 0 || pos > r.size {
		return api.ErrArg
	}
	r.pos = pos
	return api.OK
}

// whole goes back to where it began if a number cannot be read to its end.
func (r *Reader) whole(read func() (uint64, api.Errno)) (uint64, api.Errno) {
	begin := r.pos
	v, e := read()
	if e != api.OK {
		r.pos = begin
		return 0, e
	}
	return v, api.OK
}

// zeros reads bits 0 up to a bit 1 and returns how many they are, if not more than most.
func (r *Reader) zeros(most uint64) (uint64, api.Errno) {
	var count uint64
	for {
		bit, e := r.Bits(1)
		if e != api.OK {
			return 0, e
		}
		if bit == 1 {
			return count, api.OK
		}
		count++
		if count > most {
			return 0, api.ErrCorrupt
		}
	}
}

func (r *Reader) gamma() (uint64, api.Errno) {
	n, e := r.zeros(maxGammaZeros)
	if e != api.OK {
		return 0, e
	}
	return r.afterTop(n)
}

func (r *Reader) delta() (uint64, api.Errno) {
	size, e := r.gamma()
	if e != api.OK {
		return 0, e
	}
	if size > wordBits {
		return 0, api.ErrCorrupt
	}
	return r.afterTop(size - 1)
}

// afterTop reads the n bits of a number that follow its most significant one.
func (r *Reader) afterTop(n uint64) (uint64, api.Errno) {
	low, e := r.Bits(int(n))
	return 1<<n | low, e
}
