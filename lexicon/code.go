package lexicon

import (
	"bytes"
	"math"

	"corpora/api"
	"corpora/bitio"
	"corpora/checksum"
)

// Encode returns the bytes of the lexicon.
func (x *Lexicon) Encode() []byte {
	b := put(nil, len(x.words))
	before := ""
	for n, w := range x.words {
		shared := commonPrefix(before, w)
		b = put(put(b, shared), len(w)-shared)
		b = put(append(b, w[shared:]...), x.counts[n]-1)
		before = w
	}
	return checksum.Seal(b)
}

// Decode returns the lexicon of bytes.
func Decode(b []byte) (*Lexicon, api.Errno) {
	payload, e := checksum.Unseal(b)
	if e != api.OK {
		return nil, api.ErrCorrupt
	}
	r := reader{payload}
	x, _, e := Build(r.values())
	// The words may have been in another order, or bytes may be left, among much else.
	if e != api.OK || !bytes.Equal(x.Encode(), b) {
		return nil, api.ErrCorrupt
	}
	return x, api.OK
}

// put appends the encoding of v to b, all of which PutUvarint would copy for each number.
func put(b []byte, v int) []byte {
	return append(b, bitio.PutUvarint(nil, uint64(v))...)
}

// commonPrefix returns the length of the longest common prefix of two words.
func commonPrefix(a, b string) int {
	size := 0
	for size < min(len(a), len(b)) && a[size] == b[size] {
		size++
	}
	return size
}

// reader reads an encoding. What no encoding contains counts as 0 or as no bytes: the
// lexicon of what is read then has another encoding, which tells that the bytes are wrong.
type reader struct{ rest []byte }

// values reads a list of values of a lexicon.
func (r *reader) values() []string {
	var values []string
	before := ""
	for range r.number(api.MaxWords) {
		w := before[:r.number(len(before))]
		w += r.text(r.number(api.MaxValue - len(w)))
		values = appendTimes(values, w, r.number(api.MaxTokens-1-len(values))+1)
		before = w
	}
	return values
}

// number reads a number, or 0 if there is none, or if it is greater than most, which may
// be negative.
func (r *reader) number(most int) int {
	v, size, e := bitio.Uvarint(r.rest)
	if e != api.OK || v > math.MaxInt32 || int(v) > most {
		return 0
	}
	r.rest = r.rest[size:]
	return int(v)
}

// text reads so many bytes, or those that are left.
func (r *reader) text(size int) string {
	size = min(size, len(r.rest))
	text := string(r.rest[:size])
	r.rest = r.rest[size:]
	return text
}
