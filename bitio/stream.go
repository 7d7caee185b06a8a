package bitio

const byteBits = 8

// stream is a list of bits in bytes, the first one the most significant bit of
// the first byte.
type stream struct {
	bytes []byte
	size  int // in bits
}

// push appends the n lowest bits of v, the most significant one first.
func (s *stream) push(v uint64, n int) {
	for i := n - 1; i >= 0; i-- {
		if s.size%byteBits == 0 {
			s.bytes = append(s.bytes, 0)
		}
		s.bytes[s.size/byteBits] |= byte(v>>i&1) << shift(s.size)
		s.size++
	}
}

// bit returns the bit at a position.
func (s *stream) bit(at int) uint64 {
	return uint64(s.bytes[at/byteBits] >> shift(at) & 1)
}

// left returns the number of bits from a position to the end.
func (s *stream) left(at int) int {
	return s.size - at
}

// shift returns how far to the left the bit at a position stands in its byte.
func shift(at int) int {
	return byteBits - 1 - at%byteBits
}
