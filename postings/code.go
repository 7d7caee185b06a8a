package postings

import (
	"bytes"

	"corpora/api"
	"corpora/bitio"
	"corpora/checksum"
)

// Encode returns the bytes of the list.
func (l *List) Encode() []byte { return checksum.Seal(l.payload()) }

// Decode returns the list of bytes.
func Decode(b []byte) (*List, api.Errno) {
	payload, e := checksum.Unseal(b)
	if e != api.OK {
		return nil, api.ErrCorrupt
	}
	l, e := Build(positionsOf(payload))
	// The skip table may be another one, gaps may be missing, or bytes may be left, among much else.
	if e != api.OK || !bytes.Equal(l.Encode(), b) {
		return nil, api.ErrCorrupt
	}
	return l, api.OK
}

// payload returns the encoding without its sum.
func (l *List) payload() []byte {
	parts := len(l.skips)
	b := put(put(nil, l.size), l.before(parts).bits)
	b = append(b, l.gaps...)
	for n := 1; n < parts; n++ {
		b = put(b, l.part(n)[0]-l.part(n - 1)[0])
		b = put(b, l.before(n).bits-l.before(n-1).bits)
	}
	return b
}

// put appends the encoding of v to b, all of which PutUvarint would copy for each number.
func put(b []byte, v int) []byte {
	return append(b, bitio.PutUvarint(nil, uint64(v))...)
}

// positionsOf returns the positions to which the gaps of an encoding lead, as far as it is
// one: the list of what is read has another encoding if it is none.
func positionsOf(payload []byte) []int {
	size, n, _ := bitio.Uvarint(payload)
	payload = payload[n:]
	bits, n, _ := bitio.Uvarint(payload)
	r, e := bitio.NewReader(payload[n:], int(bits))
	if e != api.OK {
		return nil
	}
	return read(r, front, int(min(size, api.MaxList)))
}
