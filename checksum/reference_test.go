package checksum_test

import (
	"bytes"
	"hash/crc32"

	"corpora/checksum"
)

// sumByBits follows P3.1 bit by bit.
func sumByBits(b []byte) uint32 {
	v := uint32(0xFFFFFFFF)
	for _, x := range b {
		v ^= uint32(x)
		for range 8 {
			out := v & 1
			v >>= 1
			if out == 1 {
				v ^= 0x82F63B78
			}
		}
	}
	return ^v
}

// zerosByBytes returns what n bytes 0 make of a value, byte by byte. (Update
// exchanges all bits before the first step and after the last one.)
func zerosByBytes(v uint32, n int) uint32 {
	return ^crc32.Update(^v, crc32.MakeTable(crc32.Castagnoli), make([]byte, n))
}

// sealedByBits is what Seal is to return.
func sealedByBits(payload []byte) []byte {
	sum := sumByBits(payload)
	b := bytes.Clone(payload)
	for range 4 {
		b = append(b, byte(sum%256))
		sum /= 256
	}
	return b
}

// exchanged returns b with the bits exchanged that are 1 in mask, the lowest one
// of which stands at a number of P3.5.
func exchanged(b []byte, mask uint32, at int) []byte {
	b = bytes.Clone(b)
	for i := range 32 {
		if mask>>i&1 == 1 {
			b[(at+i)/8] ^= 1 << ((at + i) % 8)
		}
	}
	return b
}

func xor(a, b []byte) []byte {
	c := make([]byte, len(a))
	for i := range a {
		c[i] = a[i] ^ b[i]
	}
	return c
}

// random returns a function that returns the numbers of a fixed sequence without an obvious order.
func random(seed uint64) func() uint32 {
	state := seed
	return func() uint32 {
		state = state*6364136223846793005 + 1442695040888963407
		return uint32(state >> 32)
	}
}

// text returns n bytes of such a sequence.
func text(n int, next func() uint32) []byte {
	b := make([]byte, n)
	for i := range b {
		b[i] = byte(next() >> 24)
	}
	return b
}

// values returns sums: those with one bit, with one bit missing, and some others.
func values() []uint32 {
	list := []uint32{0, 1<<32 - 1, 0x82F63B78, checksum.Sum([]byte("the quick brown fox"))}
	for i := range 32 {
		list = append(list, 1<<i, ^uint32(1<<i), 0x9E3779B9<<i)
	}
	return list
}
