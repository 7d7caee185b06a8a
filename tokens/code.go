package tokens

import (
	"bytes"

	"corpora/api"
	"corpora/bitio"
	"corpora/checksum"
)

// Encode returns the bytes of the stream.
func (s *Stream) Encode() []byte { return checksum.Seal(s.payload()) }

// Decode returns the stream of bytes.
func Decode(b []byte) (*Stream, api.Errno) {
	payload, e := checksum.Unseal(b)
	if e != api.OK {
		return nil, api.ErrCorrupt
	}
	r := reader{payload}
	s, e := Build(r.numbers())
	// The other kind may need fewer bytes, lengths may be wrong, or bytes may be left, among much else.
	if e != api.OK || !bytes.Equal(s.Encode(), b) {
		return nil, api.ErrCorrupt
	}
	return s, api.OK
}

// payload returns the encoding without its sum.
func (s *Stream) payload() []byte {
	b := put(put(nil, s.size), s.kind)
	if s.kind == coded {
		b = put(b, len(s.lengths))
		for _, n := range s.lengths {
			b = append(b, byte(n))
		}
	}
	for _, p := range s.blocks {
		b = append(put(b, p.size), p.content...)
	}
	return b
}

// put appends the encoding of v to b, all of which PutUvarint would copy for each number.
func put(b []byte, v int) []byte {
	return append(b, bitio.PutUvarint(nil, uint64(v))...)
}

// reader reads an encoding. What no encoding contains counts as 0 or as no bytes: the
// stream of what is read then has another encoding, which tells that the bytes are wrong.
type reader struct{ rest []byte }

// numbers reads the numbers of a stream.
func (r *reader) numbers() []int {
	s := r.stream()
	var numbers []int
	for n := range s.blocks {
		numbers = append(numbers, s.numbersOf(n)...)
	}
	return numbers
}

// stream reads a stream, whose blocks may be wrong.
func (r *reader) stream() *Stream {
	s := &Stream{size: r.number(), kind: r.number()}
	if s.kind == coded {
		for _, n := range r.take(r.number()) {
			s.lengths = append(s.lengths, int(n))
		}
	}
	for range (s.size + BlockSize - 1) / BlockSize {
		size := r.number()
		inBytes := size
		if s.kind == coded {
			inBytes = (size + 7) / 8
		}
		s.blocks = append(s.blocks, piece{size, r.take(inBytes)})
	}
	return s
}

// number reads a number, or 0 if there is none, or if it is greater than all numbers of encodings.
func (r *reader) number() int {
	v, size, e := bitio.Uvarint(r.rest)
	if e != api.OK || v > api.MaxTokens {
		return 0
	}
	r.rest = r.rest[size:]
	return int(v)
}

// take reads so many bytes, or those that are left.
func (r *reader) take(size int) []byte {
	size = min(size, len(r.rest))
	b := r.rest[:size]
	r.rest = r.rest[size:]
	return b
}
