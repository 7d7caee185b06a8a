package checksum

const sumBits = 32

// matrix is a linear function of values: column i is what it makes of the value
// of which only bit i is 1.
type matrix [sumBits]uint32

// Combine returns the sum of two strings one after the other, given their sums x
// and y and the length n of the second one.
func Combine(x, y uint32, n int) uint32 {
	if n < 0 {
		return 0
	}
	return afterZeros(x, n) ^ y
}

// afterZeros returns what n bytes 0 make of a value. It takes them in groups, one
// for each bit 1 of n, as the square of the effect of a group is that of two groups.
func afterZeros(v uint32, n int) uint32 {
	for effect := zeroByte(); n > 0; n >>= 1 {
		if n&1 == 1 {
			v = effect.of(v)
		}
		effect = effect.squared()
	}
	return v
}

// zeroByte returns the effect of one byte 0.
func zeroByte() matrix {
	var m matrix
	for i := range m {
		m[i] = afterByte(1 << i)
	}
	return m
}

// of returns what m makes of v.
func (m *matrix) of(v uint32) uint32 {
	var sum uint32
	for i, column := range m {
		sum ^= column * (v >> i & 1)
	}
	return sum
}

// squared returns what m makes of what m makes.
func (m *matrix) squared() matrix {
	var square matrix
	for i, column := range m {
		square[i] = m.of(column)
	}
	return square
}
