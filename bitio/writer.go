package bitio

import (
	"math/bits"
	"slices"

	"corpora/api"
)

const (
	wordBits = 64
	maxUnary = 4096
)

// Writer writes a bit stream.
type Writer struct {
	stream
}

// NewWriter returns an empty Writer.
func NewWriter() *Writer {
	return &Writer{}
}

// Bits appends the n lowest bits of v.
func (w *Writer) Bits(v uint64, n int) api.Errno {
	if n < 0 || n > wordBits || v>>n != 0 {
		return api.ErrArg
	}
	w.push(v, n)
	return api.OK
}

// Unary appends v bits 0 and a bit 1.
func (w *Writer) Unary(v int) api.Errno {
	if v < 0 || v > maxUnary {
		return api.ErrArg
	}
	for range v {
		w.push(0, 1)
	}
	w.push(1, 1)
	return api.OK
}

// Gamma appends v in the gamma code.
func (w *Writer) Gamma(v uint64) api.Errno {
	if v == 0 {
		return api.ErrArg
	}
	n := bits.Len64(v) - 1
	w.push(0, n)
	w.push(v, n+1)
	return api.OK
}

// Delta appends v in the delta code.
func (w *Writer) Delta(v uint64) api.Errno {
	if v == 0 {
		return api.ErrArg
	}
	n := bits.Len64(v) - 1
	w.Gamma(uint64(n + 1))
	w.push(v, n)
	return api.OK
}

// Len returns the number of bits.
func (w *Writer) Len() int {
	return w.size
}

// Bytes returns the bits as bytes.
func (w *Writer) Bytes() []byte {
	return slices.Clone(w.bytes)
}
