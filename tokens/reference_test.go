package tokens_test

import (
	"bytes"
	"fmt"
	"math"
	"slices"
	"strconv"
	"strings"

	"corpora/api"
	"corpora/block"
	"corpora/huffman"
)

// The reference keeps bits as a text of the digits 0 and 1, and writes both encodings to find the shorter one.

// errorOf returns the error of a list of numbers.
func errorOf(numbers []int) api.Errno {
	if len(numbers) > 4096 {
		return api.ErrLimit
	}
	if slices.ContainsFunc(numbers, func(n int) bool { return n < 0 || n > 1023 }) {
		return api.ErrRange
	}
	return api.OK
}

// uvarint returns a number in groups of seven bits.
func uvarint(v int) []byte {
	var b []byte
	for ; v > 127; v /= 128 {
		b = append(b, byte(128+v%128))
	}
	return append(b, byte(v))
}

// bytesOf returns a text of digits as bytes.
func bytesOf(digits string) []byte {
	var b []byte
	for digits += "0000000"; len(digits) >= 8; digits = digits[8:] {
		x, _ := strconv.ParseUint(digits[:8], 2, 8)
		b = append(b, byte(x))
	}
	return b
}

// blocksOf divides numbers into lists of 64 and a shorter one.
func blocksOf(numbers []int) [][]int {
	var blocks [][]int
	for i, n := range numbers {
		if i%64 == 0 {
			blocks = append(blocks, nil)
		}
		blocks[i/64] = append(blocks[i/64], n)
	}
	return blocks
}

// packedIn returns the encoding of kind 0 with any blocks.
func packedIn(blocks [][]int) []byte {
	b := append(uvarint(len(slices.Concat(blocks...))), 0)
	for _, numbers := range blocks {
		content, _ := block.Pack(numbers)
		b = slices.Concat(b, uvarint(len(content)), content)
	}
	return b
}

// codesOf returns the canonical codes of lengths as texts of digits.
func codesOf(lengths []int) []string {
	texts := make([]string, len(lengths))
	code := 0
	for n := 1; n <= 15; n++ {
		for symbol, length := range lengths {
			if length == n {
				texts[symbol] = fmt.Sprintf("%0*b", n, code)
				code++
			}
		}
		code *= 2
	}
	return texts
}

// codedBy returns the encoding of kind 1 with any lengths.
func codedBy(lengths, numbers []int) []byte {
	b := append(uvarint(len(numbers)), 1)
	b = append(b, uvarint(len(lengths))...)
	for _, n := range lengths {
		b = append(b, byte(n))
	}
	codes := codesOf(lengths)
	for _, part := range blocksOf(numbers) {
		var digits strings.Builder
		for _, n := range part {
			digits.WriteString(codes[n])
		}
		b = slices.Concat(b, uvarint(digits.Len()), bytesOf(digits.String()))
	}
	return b
}

// lengthsOf returns the lengths of the best code of numbers.
func lengthsOf(numbers []int) []int {
	counts := make([]int, slices.Max(append(slices.Clone(numbers), -1))+1)
	for _, n := range numbers {
		counts[n]++
	}
	lengths, _ := huffman.Lengths(counts, 15)
	return lengths
}

// encodings returns both encodings of numbers.
func encodings(numbers []int) [2][]byte {
	return [2][]byte{packedIn(blocksOf(numbers)), codedBy(lengthsOf(numbers), numbers)}
}

// bestOf returns the kind of the shorter encoding, and this encoding.
func bestOf(numbers []int) (int, []byte) {
	both := encodings(numbers)
	kind := 0
	if len(both[1]) < len(both[0]) {
		kind = 1
	}
	return kind, both[kind]
}

// cut returns the number with which bytes begin, or a great one if there is none, and what follows it.
func cut(b []byte) (int, []byte) {
	end := slices.IndexFunc(b, func(x byte) bool { return x < 128 }) + 1
	if end == 0 || end > 5 {
		return math.MaxInt32, nil
	}
	v := 0
	for i := end - 1; i >= 0; i-- {
		v = 128*v + int(b[i]%128)
	}
	return v, b[end:]
}

// symbolsOf returns the numbers whose codes a text of digits consists of, as far as it consists of codes.
func symbolsOf(codes []string, digits string) []int {
	symbols := map[string]int{}
	for n, code := range codes {
		symbols[code] = n
	}
	delete(symbols, "")
	var numbers []int
	for end := 0; end <= len(digits); end++ {
		if n, ok := symbols[digits[:end]]; ok {
			numbers = append(numbers, n)
			digits = digits[end:]
			end = 0
		}
	}
	return numbers
}

// codedBlock returns the numbers of so many bits, and the bytes behind them; false if there are too few.
func codedBlock(codes []string, bits int, b []byte) ([]int, []byte, bool) {
	size := (bits + 7) / 8
	if size > len(b) {
		return nil, nil, false
	}
	var digits strings.Builder
	for _, x := range b[:size] {
		fmt.Fprintf(&digits, "%08b", x)
	}
	return symbolsOf(codes, digits.String()[:bits]), b[size:], true
}

// codesAhead returns the codes of the lengths with which bytes begin, and what follows them; false if there are too few.
func codesAhead(b []byte) ([]string, []byte, bool) {
	m, rest := cut(b)
	if m > len(rest) {
		return nil, nil, false
	}
	lengths := make([]int, m)
	for n := range lengths {
		lengths[n] = int(rest[n])
	}
	return codesOf(lengths), rest[m:], true
}

// decoded returns the numbers of which bytes are the best encoding, and false if there are none.
func decoded(b []byte) ([]int, bool) {
	size, rest := cut(b)
	kind, rest := cut(rest)
	var codes []string
	ok := kind <= 1
	if kind == 1 {
		codes, rest, ok = codesAhead(rest)
	}
	var numbers []int
	for ok && len(numbers) < min(size, 4096) {
		var length int
		var part []int
		length, rest = cut(rest)
		if kind == 1 {
			part, rest, ok = codedBlock(codes, length, rest)
		} else if ok = length <= len(rest); ok {
			part, _ = block.Unpack(rest[:length])
			rest = rest[length:]
		}
		ok = ok && len(part) > 0
		numbers = append(numbers, part...)
	}
	if !ok || errorOf(numbers) != api.OK {
		return nil, false
	}
	if _, best := bestOf(numbers); !bytes.Equal(best, b) {
		return nil, false
	}
	return numbers, true
}
