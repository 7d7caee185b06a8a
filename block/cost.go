package block

import "math/bits"

const groupBits = 7 // of a number by bitio.PutUvarint, in each byte

// table holds the cost of a list of numbers with each width.
type table [maxWidth + 1]int

func tabulate(values []int) table {
	var t table
	for width := range t {
		t[width] = cost(values, width)
	}
	return t
}

// cheapest returns the least width with the least cost.
func (t table) cheapest() int {
	best := 0
	for width, sum := range t {
		if sum < t[best] {
			best = width
		}
	}
	return best
}

// cost returns the number of bytes of the encoding with a width.
func cost(values []int, width int) int {
	sum, exceptions, before := 0, 0, -1
	for i, v := range values {
		if high := v >> width; high > 0 {
			sum += uvarintSize(i-before) + uvarintSize(high)
			exceptions++
			before = i
		}
	}
	return uvarintSize(len(values)) + uvarintSize(width) + uvarintSize(exceptions) + lowSize(len(values), width) + sum
}

// uvarintSize returns the number of bytes that bitio.PutUvarint writes.
func uvarintSize(v int) int {
	return (max(1, bits.Len(uint(v))) + groupBits - 1) / groupBits
}

// lowSize returns the number of bytes that hold the lowest bits of so many numbers.
func lowSize(count, width int) int { return (count*width + 7) / 8 }
