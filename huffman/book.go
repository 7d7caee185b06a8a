package huffman

import "corpora/api"

// book is a canonical code.
type book struct {
	first   [api.MaxCode + 1]uint64 // the first code of each length
	symbols [api.MaxCode + 1][]int  // the symbols of each length in ascending order
	end     uint64                  // the number of words of MaxCode bits that begin with a code
}

// open returns the code of lengths, and ErrArg if they are not valid.
func open(lengths []int) (*book, api.Errno) {
	if len(lengths) > api.MaxWords {
		return nil, api.ErrArg
	}
	b := &book{}
	for symbol, n := range lengths {
		if n < 0 || n > api.MaxCode {
			return nil, api.ErrArg
		}
		b.symbols[n] = append(b.symbols[n], symbol)
	}
	for n := 1; n <= api.MaxCode; n++ {
		b.first[n] = b.end << 1
		b.end = b.first[n] + uint64(len(b.symbols[n]))
	}
	if b.end > 1<<api.MaxCode {
		return nil, api.ErrArg
	}
	return b, api.OK
}

// codes returns the codes of so many symbols.
func (b *book) codes(size int) []uint64 {
	codes := make([]uint64, size)
	for n := 1; n <= api.MaxCode; n++ {
		for i, symbol := range b.symbols[n] {
			codes[symbol] = b.first[n] + uint64(i)
		}
	}
	return codes
}

// write writes the codes of symbols with a method that writes bits.
func write(symbols []int, codes []uint64, lengths []int, bits func(v uint64, n int) api.Errno) {
	for _, s := range symbols {
		bits(codes[s], lengths[s])
	}
}

// read reads the code of a symbol with a method that reads bits.
func (b *book) read(bits func(n int) (uint64, api.Errno)) (int, api.Errno) {
	var v uint64
	for n := 1; n <= api.MaxCode; n++ {
		bit, e := bits(1)
		if e != api.OK {
			return 0, e
		}
		v = v<<1 | bit
		// v is not less than the first code of n bits, because a shorter one would have ended before.
		if i := v - b.first[n]; i < uint64(len(b.symbols[n])) {
			return b.symbols[n][i], api.OK
		}
		// The codes stand at the beginning of all words, without gaps.
		if v<<(api.MaxCode-n) >= b.end {
			break
		}
	}
	return 0, api.ErrCorrupt
}
