package checksum_test

import (
	"bytes"
	"hash/crc32"
	"math"
	"testing"

	"corpora/api"
	"corpora/checksum"
)

// P3.1

func TestSum(t *testing.T) {
	for _, c := range []struct {
		b    []byte
		want uint32
	}{
		{nil, 0},
		{[]byte{}, 0},
		{[]byte{0}, 0x527D5351},
		{[]byte{255}, 0xFF000000},
		{[]byte("a"), 0xC1D04330},
		{[]byte("123456789"), 0xE3069283},
		{make([]byte, 32), 0x8A9136AA},
		{bytes.Repeat([]byte{255}, 32), 0x62A8AB43},
	} {
		if got := checksum.Sum(c.b); got != c.want {
			t.Errorf("Sum(%v) = %#x; expected %#x", c.b, got, c.want)
		}
	}
}

func TestSumOfAllShortStrings(t *testing.T) {
	for i := range 1 << 16 {
		for _, b := range [][]byte{{byte(i)}, {byte(i), byte(i >> 8)}, {byte(i), 0, 255, byte(i >> 8)}} {
			if got, want := checksum.Sum(b), sumByBits(b); got != want {
				t.Fatalf("Sum(%v) = %#x; expected %#x", b, got, want)
			}
		}
	}
}

func TestSumOfAllLengths(t *testing.T) {
	b := text(1000, random(1))
	for n := range len(b) + 1 {
		if got, want := checksum.Sum(b[:n]), sumByBits(b[:n]); got != want {
			t.Fatalf("Sum of %d bytes = %#x; expected %#x", n, got, want)
		}
	}
	long := text(1<<20+1, random(2))
	if got, want := checksum.Sum(long), crc32.Checksum(long, crc32.MakeTable(crc32.Castagnoli)); got != want {
		t.Errorf("Sum of %d bytes = %#x; expected %#x", len(long), got, want)
	}
}

func TestSumLeavesItsArgument(t *testing.T) {
	b := text(100, random(3))
	before := bytes.Clone(b)
	checksum.Sum(b[:50])
	if !bytes.Equal(b, before) {
		t.Error("Sum has written into its argument")
	}
}

// P3.2

func TestCombineAtAllCuts(t *testing.T) {
	all := text(300, random(4))
	for end := range len(all) + 1 {
		want := checksum.Sum(all[:end])
		for cut := range end + 1 {
			first, second := all[:cut], all[cut:end]
			if got := checksum.Combine(checksum.Sum(first), checksum.Sum(second), len(second)); got != want {
				t.Fatalf("Combine of %d and %d bytes = %#x; expected %#x", cut, end-cut, got, want)
			}
		}
	}
}

func TestCombineWithZeros(t *testing.T) {
	for n := range 300 {
		for i, x := range values() {
			y := values()[len(values())-1-i]
			if got, want := checksum.Combine(x, y, n), zerosByBytes(x, n)^y; got != want {
				t.Fatalf("Combine(%#x, %#x, %d) = %#x; expected %#x", x, y, n, got, want)
			}
		}
	}
	for _, n := range []int{1<<16 - 1, 1 << 16, 1<<20 + 12345} {
		if got, want := checksum.Combine(0xE3069283, 7, n), zerosByBytes(0xE3069283, n)^7; got != want {
			t.Errorf("Combine(0xE3069283, 7, %d) = %#x; expected %#x", n, got, want)
		}
	}
}

func TestCombineWithoutBytes(t *testing.T) {
	for _, x := range values() {
		for _, y := range values() {
			if got := checksum.Combine(x, y, 0); got != x^y {
				t.Errorf("Combine(%#x, %#x, 0) = %#x; expected %#x", x, y, got, x^y)
			}
		}
	}
}

func TestCombineWithNegativeLength(t *testing.T) {
	for _, n := range []int{-1, -2, -8, -1 << 31, math.MinInt + 1, math.MinInt} {
		if got := checksum.Combine(0xE3069283, 5, n); got != 0 {
			t.Errorf("Combine(0xE3069283, 5, %d) = %#x; expected 0", n, got)
		}
	}
}

// After 2^31 - 1 steps with 0x82F63B78 every value is back, so that lengths count
// modulo this number.
func TestCombineWithGreatLengths(t *testing.T) {
	const period = 1<<31 - 1
	for _, x := range values() {
		for _, c := range []struct{ n, same int }{
			{period, 0},
			{period + 1, 1},
			{period + 200, 200},
			{1 << 40, 1 << 9},
			{1 << 62, 1},
			{1<<62 + 1<<31, 2},
			{math.MaxInt, 1},
			{math.MaxInt - 1, 0},
		} {
			if got, want := checksum.Combine(x, 9, c.n), zerosByBytes(x, c.same)^9; got != want {
				t.Errorf("Combine(%#x, 9, %d) = %#x; expected %#x", x, c.n, got, want)
			}
		}
	}
}

func TestCombineOfThreeParts(t *testing.T) {
	next := random(5)
	for range 2000 {
		x, y, z := next(), next(), next()
		m, n := int(next()), int(next())
		left := checksum.Combine(checksum.Combine(x, y, m), z, n)
		right := checksum.Combine(x, checksum.Combine(y, z, n), m+n)
		if left != right {
			t.Fatalf("Combine of %#x, %#x, %#x with %d and %d bytes = %#x and %#x", x, y, z, m, n, left, right)
		}
	}
}

// P3.3

func TestSealAndUnseal(t *testing.T) {
	payloads := [][]byte{nil, {}, {0}, {255}, {0, 0, 0, 0}, []byte("123456789"), make([]byte, 70)}
	for n := range 100 {
		payloads = append(payloads, text(n, random(uint64(n))))
	}
	for _, payload := range payloads {
		want := sealedByBits(payload)
		sealed := checksum.Seal(payload)
		if !bytes.Equal(sealed, want) {
			t.Errorf("Seal(%v) = %v; expected %v", payload, sealed, want)
		}
		if got, e := checksum.Unseal(want); e != api.OK || !bytes.Equal(got, payload) {
			t.Errorf("Unseal(%v) = %v, %d; expected %v", want, got, e, payload)
		}
	}
	if got := checksum.Seal([]byte("123456789")); !bytes.Equal(got, []byte("123456789\x83\x92\x06\xE3")) {
		t.Errorf("Seal(123456789) = %v", got)
	}
	if got := checksum.Seal(nil); !bytes.Equal(got, make([]byte, 4)) {
		t.Errorf("Seal(nil) = %v; expected four bytes 0", got)
	}
}

func TestUnsealOfTruncated(t *testing.T) {
	for _, b := range [][]byte{nil, {}, {0}, {0, 0}, {0, 0, 0}, {0x83, 0x92, 6}, {255, 255, 255}} {
		if got, e := checksum.Unseal(b); len(got) != 0 || e != api.ErrTruncated {
			t.Errorf("Unseal(%v) = %v, %d; expected ErrTruncated", b, got, e)
		}
	}
}

func TestUnsealOfCorrupt(t *testing.T) {
	sealed := checksum.Seal([]byte("123456789"))
	for n := 4; n < len(sealed); n++ {
		if got, e := checksum.Unseal(sealed[:n]); len(got) != 0 || e != api.ErrCorrupt {
			t.Errorf("Unseal(%v) = %v, %d; expected ErrCorrupt", sealed[:n], got, e)
		}
	}
	for i := range sealed {
		for x := range 255 {
			b := bytes.Clone(sealed)
			b[i] += byte(x + 1)
			if got, e := checksum.Unseal(b); len(got) != 0 || e != api.ErrCorrupt {
				t.Errorf("Unseal(%v) = %v, %d; expected ErrCorrupt", b, got, e)
			}
		}
	}
	for _, b := range [][]byte{
		append([]byte("123456789"), 0xE3, 0x06, 0x92, 0x83), // the most significant byte first
		append([]byte("123456789"), 0x7C, 0x6D, 0xF9, 0x1C), // not the complement
		append([]byte{0x83, 0x92, 0x06, 0xE3}, "123456789"...),
		{255, 255, 255, 255},
		{0, 0, 0, 1},
		{1, 0, 0, 0},
	} {
		if got, e := checksum.Unseal(b); len(got) != 0 || e != api.ErrCorrupt {
			t.Errorf("Unseal(%v) = %v, %d; expected ErrCorrupt", b, got, e)
		}
	}
}

func TestSealedIsNewMemory(t *testing.T) {
	for n := range 40 {
		for spare := range 12 {
			b := text(n+spare, random(6))
			before := bytes.Clone(b)
			sealed := checksum.Seal(b[:n])
			again := checksum.Seal(b[:n])
			clear(sealed)
			if !bytes.Equal(b, before) {
				t.Fatalf("Seal of %d bytes with %d to spare has written into its argument", n, spare)
			}
			if !bytes.Equal(again, sealedByBits(b[:n])) {
				t.Fatalf("two results of Seal of %d bytes with %d to spare share memory", n, spare)
			}
		}
	}
}

func TestUnsealedIsNewMemory(t *testing.T) {
	for n := range 40 {
		b := append(sealedByBits(text(n, random(7))), 1, 2, 3, 4, 5)
		before := bytes.Clone(b)
		payload, _ := checksum.Unseal(b[:n+4])
		again, _ := checksum.Unseal(b[:n+4])
		clear(append(payload, 0, 0, 0, 0))
		clear(payload)
		if !bytes.Equal(b, before) {
			t.Fatalf("Unseal of %d bytes shares memory with its argument", n+4)
		}
		if !bytes.Equal(again, before[:n]) {
			t.Fatalf("two results of Unseal of %d bytes share memory", n+4)
		}
	}
}

// P3.4

func TestSumOfExclusiveOr(t *testing.T) {
	for n := range 200 {
		next := random(uint64(n))
		a, b, c := text(n, next), text(n, next), text(n, next)
		want := checksum.Sum(a) ^ checksum.Sum(b) ^ checksum.Sum(c)
		if got := checksum.Sum(xor(xor(a, b), c)); got != want {
			t.Fatalf("Sum of %v xor %v xor %v = %#x; expected %#x", a, b, c, got, want)
		}
	}
}

// P3.5

func TestUnsealWithExchangedBits(t *testing.T) {
	next := random(8)
	for n := range 20 {
		sealed := checksum.Seal(text(n, next))
		for at := range 8*len(sealed) - 31 {
			for _, mask := range append(masks(), next(), next(), next()|1|1<<31) {
				b := exchanged(sealed, mask, at)
				if got, e := checksum.Unseal(b); mask != 0 && (len(got) != 0 || e != api.ErrCorrupt) {
					t.Fatalf("Unseal(%v) with %#x exchanged at %d = %v, %d; expected ErrCorrupt", sealed, mask, at, got, e)
				}
			}
		}
	}
}

// masks returns sets of bits to exchange: runs of all lengths, and pairs at all distances.
func masks() []uint32 {
	list := []uint32{0x82F63B78, 0x1EDC6F41, 0x55555555, 0xAAAAAAAA}
	for i := range 32 {
		list = append(list, 1<<i, 1|1<<i, 1<<31|1<<i, 1<<(i+1)-1, ^uint32(0)<<i)
	}
	return list
}

func FuzzSeal(f *testing.F) {
	f.Add([]byte(nil), 0)
	f.Add([]byte("123456789"), 4)
	f.Add([]byte("123456789\x83\x92\x06\xE3"), 13)
	f.Fuzz(func(t *testing.T, b []byte, cut int) {
		sum := sumByBits(b)
		if got := checksum.Sum(b); got != sum {
			t.Errorf("Sum(%v) = %#x; expected %#x", b, got, sum)
		}
		if cut >= 0 && cut <= len(b) {
			got := checksum.Combine(checksum.Sum(b[:cut]), checksum.Sum(b[cut:]), len(b)-cut)
			if got != sum {
				t.Errorf("Combine at %d of %v = %#x; expected %#x", cut, b, got, sum)
			}
		}
		if got, e := checksum.Unseal(checksum.Seal(b)); e != api.OK || !bytes.Equal(got, b) {
			t.Errorf("Unseal(Seal(%v)) = %v, %d", b, got, e)
		}
		payload, e := checksum.Unseal(b)
		if e == api.OK && !bytes.Equal(checksum.Seal(payload), b) || e != api.OK && len(payload) != 0 {
			t.Errorf("Unseal(%v) = %v, %d", b, payload, e)
		}
	})
}
