package huffman_test

import (
	"cmp"
	"math"
	"slices"
	"strconv"
	"strings"

	"corpora/api"
)

// The reference makes lists of P14.1 whose items contain their symbols as often as they
// occur, tries all lengths for the least sum, and keeps codes as texts of the digits 0 and 1.

// parcel is a leaf (kind 0) or a package (kind 1).
type parcel struct {
	weight, kind int
	order        int // its symbol, or the number of packages before it
	symbols      []int
}

func compareParcels(a, b parcel) int {
	return cmp.Or(a.weight-b.weight, a.kind-b.kind, a.order-b.order)
}

func leavesOf(counts []int) []parcel {
	var leaves []parcel
	for symbol, c := range counts {
		if c != 0 {
			leaves = append(leaves, parcel{c, 0, symbol, []int{symbol}})
		}
	}
	return leaves
}

// nextList returns the list of leaves and of packages of the items of a list.
func nextList(leaves, list []parcel) []parcel {
	next := slices.Clone(leaves)
	for n := range len(list) / 2 {
		a, b := list[2*n], list[2*n+1]
		next = append(next, parcel{a.weight + b.weight, 1, n, slices.Concat(a.symbols, b.symbols)})
	}
	slices.SortFunc(next, compareParcels)
	return next
}

// lengthsOf returns the lengths of counts that are right.
func lengthsOf(counts []int, limit int) []int {
	lengths := make([]int, len(counts))
	leaves := leavesOf(counts)
	k := len(leaves)
	if k == 1 {
		lengths[leaves[0].order] = 1
	}
	if k < 2 {
		return lengths
	}
	list := nextList(leaves, nil)
	for range limit - 1 {
		list = nextList(leaves, list)
	}
	for _, x := range list[:2*k-2] {
		for _, symbol := range x.symbols {
			lengths[symbol]++
		}
	}
	return lengths
}

// cost returns the sum of count times length.
func cost(counts, lengths []int) int {
	sum := 0
	for symbol, n := range lengths {
		sum += counts[symbol] * n
	}
	return sum
}

// leastCost returns the least cost of all lengths from 1 to limit that leave room for codes.
func leastCost(counts []int, limit int) int {
	all := 1 << limit
	best := append([]int{0}, times(all, math.MaxInt)...) // by the number of words of limit bits that are used up
	for _, leaf := range leavesOf(counts) {
		next := times(all+1, math.MaxInt)
		for used, sum := range best {
			for n := 1; n <= limit && sum < math.MaxInt; n++ {
				if u := used + all>>n; u <= all {
					next[u] = min(next[u], sum+leaf.weight*n)
				}
			}
		}
		best = next
	}
	return slices.Min(best)
}

// wordsUsed returns how many words of 15 bits begin with codes of some lengths.
func wordsUsed(lengths []int) int {
	sum := 0
	for _, n := range lengths {
		if n > 0 {
			sum += 1 << (15 - n)
		}
	}
	return sum
}

func validLengths(lengths []int) bool {
	wrong := func(n int) bool { return n < 0 || n > 15 }
	return len(lengths) <= 1024 && !slices.ContainsFunc(lengths, wrong) && wordsUsed(lengths) <= 1<<15
}

// numerical returns a text as a number.
func numerical(text string) uint64 {
	v, _ := strconv.ParseUint("0"+text, 2, 64)
	return v
}

// textsOf returns the codes of lengths that are valid, and no digits for absent symbols.
func textsOf(lengths []int) []string {
	texts := make([]string, len(lengths))
	before := ""
	for n := 1; n <= 15; n++ {
		for symbol, length := range lengths {
			if length != n {
				continue
			}
			var v uint64
			if before != "" {
				v = (numerical(before) + 1) << (n - len(before))
			}
			text := strings.Repeat("0", n) + strconv.FormatUint(v, 2)
			before = text[len(text)-n:]
			texts[symbol] = before
		}
	}
	return texts
}

// pack returns a text of digits as bytes, filled up with a digit.
func pack(text string, filler byte) []byte {
	b := make([]byte, (len(text)+7)/8)
	for i := range 8 * len(b) {
		digit := filler
		if i < len(text) {
			digit = text[i]
		}
		b[i/8] = 2*b[i/8] + digit - '0'
	}
	return b
}

// unpack returns the first bits of bytes as a text.
func unpack(b []byte, bits int) string {
	var text strings.Builder
	for _, x := range b {
		digits := strconv.FormatUint(1<<8|uint64(x), 2)
		text.WriteString(digits[1:])
	}
	return text.String()[:bits]
}

// encoded returns the codes of symbols one after the other, and false if a symbol has none.
func encoded(texts []string, symbols []int) (string, bool) {
	var text strings.Builder
	for _, s := range symbols {
		if s < 0 || s >= len(texts) || texts[s] == "" {
			return "", false
		}
		text.WriteString(texts[s])
	}
	return text.String(), true
}

// decoded returns so many symbols whose codes a text consists of.
func decoded(texts []string, text string, count int) ([]int, api.Errno) {
	var symbols []int
	for range count {
		symbol := -1
		for n := 0; symbol < 0; symbol = slices.Index(texts, text[:n]) {
			if n == len(text) {
				return nil, api.ErrTruncated
			}
			n++
			if !slices.ContainsFunc(texts, func(c string) bool { return strings.HasPrefix(c, text[:n]) }) {
				return nil, api.ErrCorrupt
			}
		}
		symbols = append(symbols, symbol)
		text = text[len(texts[symbol]):]
	}
	if text != "" {
		return nil, api.ErrCorrupt
	}
	return symbols, api.OK
}
