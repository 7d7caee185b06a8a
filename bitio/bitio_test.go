package bitio_test

import (
	"bytes"
	"math"
	"testing"

	"corpora/api"
	"corpora/bitio"
)

// P2.1

func TestPutUvarint(t *testing.T) {
	for _, c := range []struct {
		v    uint64
		want []byte
	}{
		{0, []byte{0}},
		{1, []byte{1}},
		{127, []byte{127}},
		{128, []byte{128, 1}},
		{300, []byte{172, 2}},
		{1<<14 - 1, []byte{255, 127}},
		{1 << 14, []byte{128, 128, 1}},
		{1<<63 - 1, []byte{255, 255, 255, 255, 255, 255, 255, 255, 127}},
		{1 << 63, []byte{128, 128, 128, 128, 128, 128, 128, 128, 128, 1}},
		{math.MaxUint64, []byte{255, 255, 255, 255, 255, 255, 255, 255, 255, 1}},
	} {
		if got := bitio.PutUvarint(nil, c.v); !bytes.Equal(got, c.want) {
			t.Errorf("PutUvarint(nil, %d) = %v; expected %v", c.v, got, c.want)
		}
		got := bitio.PutUvarint([]byte{7, 200}, c.v)
		if want := append([]byte{7, 200}, c.want...); !bytes.Equal(got, want) {
			t.Errorf("PutUvarint({7, 200}, %d) = %v; expected %v", c.v, got, want)
		}
	}
}

func TestUvarintReadsWhatPutUvarintWrites(t *testing.T) {
	for _, v := range append(numbers(), 0) {
		b := bitio.PutUvarint(nil, v)
		for _, after := range [][]byte{nil, {0}, {127}, {128}, {255, 255}} {
			got, n, e := bitio.Uvarint(append(b[:len(b):len(b)], after...))
			if got != v || n != len(b) || e != api.OK {
				t.Errorf("Uvarint(%v, then %v) = %d, %d, %d", b, after, got, n, e)
			}
		}
		for n := range b {
			if got, size, e := bitio.Uvarint(b[:n]); got != 0 || size != 0 || e != api.ErrTruncated {
				t.Errorf("Uvarint(%v) = %d, %d, %d; expected ErrTruncated", b[:n], got, size, e)
			}
		}
	}
}

func TestUvarintOfAllPairs(t *testing.T) {
	for i := range 1 << 16 {
		b := []byte{byte(i >> 8), byte(i)}
		v, n, e := bitio.Uvarint(b)
		switch first, second := uint64(b[0]), uint64(b[1]); {
		case first < 128:
			if v != first || n != 1 || e != api.OK {
				t.Fatalf("Uvarint(%v) = %d, %d, %d", b, v, n, e)
			}
		case second == 0:
			if v != 0 || n != 0 || e != api.ErrCorrupt {
				t.Fatalf("Uvarint(%v) = %d, %d, %d; expected ErrCorrupt", b, v, n, e)
			}
		case second < 128:
			if v != first-128+128*second || n != 2 || e != api.OK {
				t.Fatalf("Uvarint(%v) = %d, %d, %d", b, v, n, e)
			}
		default:
			if v != 0 || n != 0 || e != api.ErrTruncated {
				t.Fatalf("Uvarint(%v) = %d, %d, %d; expected ErrTruncated", b, v, n, e)
			}
		}
	}
}

func TestUvarintOfLongInputs(t *testing.T) {
	for n := 1; n <= 12; n++ {
		for last := range 256 {
			b := append(bytes.Repeat([]byte{128}, n-1), byte(last))
			want := api.OK
			switch {
			case n > 10, n == 10 && last != 1, n > 1 && last == 0:
				want = api.ErrCorrupt
			case last >= 128:
				want = api.ErrTruncated
			}
			v, size, e := bitio.Uvarint(b)
			if e != want || e == api.OK && (v != uint64(last)<<(7*(n-1)) || size != n) || e != api.OK && (v != 0 || size != 0) {
				t.Errorf("Uvarint(%v) = %d, %d, %d; expected error %d", b, v, size, e, want)
			}
		}
	}
}

func TestPutUvarintKeepsItsArgument(t *testing.T) {
	room := bytes.Repeat([]byte{9}, 20)
	got := bitio.PutUvarint(room[:2], 300)
	if !bytes.Equal(got, []byte{9, 9, 172, 2}) || !bytes.Equal(room, bytes.Repeat([]byte{9}, 20)) {
		t.Errorf("PutUvarint = %v; its argument became %v", got, room)
	}
	got[0] = 5
	if room[0] != 9 {
		t.Error("the result shares memory with the argument")
	}
}

// P2.2

func TestNewWriterIsEmpty(t *testing.T) {
	if w := bitio.NewWriter(); w.Len() != 0 || len(w.Bytes()) != 0 {
		t.Error(w.Len(), w.Bytes())
	}
}

func TestWrittenBits(t *testing.T) {
	for _, c := range []struct {
		name  string
		write func(w *bitio.Writer) api.Errno
		want  string
	}{
		{"Bits(0, 0)", func(w *bitio.Writer) api.Errno { return w.Bits(0, 0) }, ""},
		{"Bits(5, 3)", func(w *bitio.Writer) api.Errno { return w.Bits(5, 3) }, "101"},
		{"Bits(1, 12)", func(w *bitio.Writer) api.Errno { return w.Bits(1, 12) }, "000000000001"},
		{"Unary(0)", func(w *bitio.Writer) api.Errno { return w.Unary(0) }, "1"},
		{"Unary(3)", func(w *bitio.Writer) api.Errno { return w.Unary(3) }, "0001"},
		{"Gamma(1)", func(w *bitio.Writer) api.Errno { return w.Gamma(1) }, "1"},
		{"Gamma(2)", func(w *bitio.Writer) api.Errno { return w.Gamma(2) }, "010"},
		{"Gamma(5)", func(w *bitio.Writer) api.Errno { return w.Gamma(5) }, "00101"},
		{"Delta(1)", func(w *bitio.Writer) api.Errno { return w.Delta(1) }, "1"},
		{"Delta(2)", func(w *bitio.Writer) api.Errno { return w.Delta(2) }, "0100"},
		{"Delta(5)", func(w *bitio.Writer) api.Errno { return w.Delta(5) }, "01101"},
		{"Delta(16)", func(w *bitio.Writer) api.Errno { return w.Delta(16) }, "001010000"},
	} {
		w := bitio.NewWriter()
		if e := c.write(w); e != api.OK || w.Len() != len(c.want) || !bytes.Equal(w.Bytes(), pack(c.want)) {
			t.Errorf("%s: error %d, %d bits %v; expected %s", c.name, e, w.Len(), w.Bytes(), c.want)
		}
	}
}

// expectBits compares what a Writer holds with digits.
func expectBits(t *testing.T, w *bitio.Writer, want string) {
	t.Helper()
	if got := w.Bytes(); w.Len() != len(want) || !bytes.Equal(got, pack(want)) {
		t.Fatalf("%d bits %v; expected %s", w.Len(), got, want)
	}
}

func TestWriterOfAllLengths(t *testing.T) {
	for offset := range 8 { // the bits of a call do not depend on those before it
		before := "10110100"[:offset]
		start := func() *bitio.Writer {
			w := bitio.NewWriter()
			for _, digit := range before {
				w.Bits(uint64(digit-'0'), 1)
			}
			return w
		}
		for _, v := range numbers() {
			w := start()
			if e := w.Gamma(v); e != api.OK {
				t.Fatalf("Gamma(%d) = %d", v, e)
			}
			expectBits(t, w, before+gammaCode(v))
			w = start()
			if e := w.Delta(v); e != api.OK {
				t.Fatalf("Delta(%d) = %d", v, e)
			}
			expectBits(t, w, before+deltaCode(v))
			for n := range 65 {
				w = start()
				want := before + digits(v, n)
				if e := w.Bits(v&(1<<n-1), n); e != api.OK {
					t.Fatalf("Bits(%d, %d) = %d", v, n, e)
				}
				expectBits(t, w, want)
			}
		}
		for _, v := range []int{0, 1, 7, 8, 63, 64, 4095, 4096} {
			w := start()
			if e := w.Unary(v); e != api.OK {
				t.Fatalf("Unary(%d) = %d", v, e)
			}
			expectBits(t, w, before+unaryCode(v))
		}
	}
}

func TestWriterRefusesWithoutEffect(t *testing.T) {
	w := bitio.NewWriter()
	w.Bits(5, 3)
	refused := func(name string, e api.Errno) {
		t.Helper()
		if e != api.ErrArg {
			t.Errorf("%s: error %d", name, e)
		}
		expectBits(t, w, "101")
	}
	for _, n := range []int{-1, 65, 128, math.MinInt, math.MaxInt} {
		refused("Bits of a wrong number", w.Bits(0, n))
		refused("Bits of a wrong number", w.Bits(math.MaxUint64, n))
	}
	for n := range 64 {
		refused("Bits of 2^n", w.Bits(1<<n, n))
		refused("Bits above 2^n", w.Bits(math.MaxUint64, n))
	}
	for _, v := range []int{-1, 4097, math.MinInt, math.MaxInt} {
		refused("Unary", w.Unary(v))
	}
	refused("Gamma(0)", w.Gamma(0))
	refused("Delta(0)", w.Delta(0))
	w.Bits(1, 1)
	expectBits(t, w, "1011")
}

func TestBytesIsACopy(t *testing.T) {
	w := bitio.NewWriter()
	w.Bits(5, 3)
	first := w.Bytes()
	second := w.Bytes()
	w.Bits(1, 1)
	if first[0] != 0xA0 || second[0] != 0xA0 {
		t.Error("a later call changed what Bytes returned:", first, second)
	}
	first[0] = 0xFF
	if second[0] != 0xA0 {
		t.Error("two results of Bytes share memory")
	}
	expectBits(t, w, "1011")
	spare := append(w.Bytes(), 0xFF)
	w.Bits(0, 12)
	expectBits(t, w, "1011000000000000")
	if spare[1] != 0xFF {
		t.Error("the Writer writes in the spare capacity of what Bytes returned")
	}
}

// P2.3

func TestNewReader(t *testing.T) {
	for _, c := range []struct {
		b    []byte
		n    int
		want api.Errno
	}{
		{nil, 0, api.OK},
		{nil, 1, api.ErrArg},
		{nil, -1, api.ErrArg},
		{[]byte{1, 2}, 0, api.OK},
		{[]byte{1, 2}, 15, api.OK},
		{[]byte{1, 2}, 16, api.OK},
		{[]byte{1, 2}, 17, api.ErrArg},
		{[]byte{1, 2}, math.MaxInt, api.ErrArg},
		{[]byte{1, 2}, math.MinInt, api.ErrArg},
		{make([]byte, 1, 2), 9, api.ErrArg}, // the spare capacity is not part of it
	} {
		r, e := bitio.NewReader(c.b, c.n)
		if e != c.want || (r != nil) != (e == api.OK) {
			t.Errorf("NewReader(%v, %d) = %v, %d", c.b, c.n, r, e)
		}
		if r != nil && r.Pos() != 0 {
			t.Errorf("a new Reader is at %d", r.Pos())
		}
	}
}

func TestReaderKeepsNoArgument(t *testing.T) {
	b := []byte{0xA5, 0x3C}
	r, _ := bitio.NewReader(b, 16)
	b[0], b[1] = 0, 0
	if v, e := r.Bits(16); v != 0xA53C || e != api.OK {
		t.Errorf("%#x, %d", v, e)
	}
}

func TestReaderOfAllShortStreams(t *testing.T) {
	for n := range 14 {
		for i := range 1 << n {
			s := digits(uint64(i), n)
			// The bits behind the stream are not read, neither in its last byte nor after it.
			b := append(pack(s+"1111111"[:(8-n%8)%8]), 0xFF)
			r, e := bitio.NewReader(b, n)
			if e != api.OK {
				t.Fatal(e)
			}
			for pos := range n + 1 {
				compareAt(t, r, s, pos)
			}
		}
	}
}

func TestReaderOfLongStreams(t *testing.T) {
	next := random(1)
	for range 200 {
		s := ""
		for len(s) < 150 {
			s += unaryCode(next(70)) + digits(uint64(next(1<<20)), 3*next(4))
		}
		r, e := bitio.NewReader(pack(s), len(s))
		if e != api.OK {
			t.Fatal(e)
		}
		for pos := range len(s) + 1 {
			compareAt(t, r, s, pos)
		}
	}
}

func TestUnaryLimit(t *testing.T) {
	for _, c := range []struct {
		zeros int
		after string
		want  api.Errno
	}{
		{4096, "1", api.OK},
		{4096, "", api.ErrTruncated},
		{4097, "", api.ErrCorrupt},
		{4097, "1", api.ErrCorrupt},
		{9000, "1", api.ErrCorrupt},
	} {
		s := "1" + unaryCode(c.zeros)[:c.zeros] + c.after
		r, _ := bitio.NewReader(pack(s), len(s))
		r.Seek(1)
		v, e := r.Unary()
		if e != c.want || e == api.OK && (v != c.zeros || r.Pos() != len(s)) || e != api.OK && (v != 0 || r.Pos() != 1) {
			t.Errorf("Unary of %d zeros and %q = %d, %d, to %d", c.zeros, c.after, v, e, r.Pos())
		}
	}
}

func TestGammaLimit(t *testing.T) {
	for s, want := range map[string]result{
		digits(0, 63) + digits(math.MaxUint64, 64):       {math.MaxUint64, 127, api.OK},
		digits(0, 63) + digits(math.MaxUint64, 63):       failure(api.ErrTruncated),
		digits(0, 63) + "1":                              failure(api.ErrTruncated),
		digits(0, 63):                                    failure(api.ErrTruncated),
		digits(0, 64):                                    failure(api.ErrCorrupt),
		digits(0, 64) + "1" + digits(math.MaxUint64, 64): failure(api.ErrCorrupt),
	} {
		r, _ := bitio.NewReader(pack(s), len(s))
		if v, e := r.Gamma(); v != want.v || e != want.e || r.Pos() != want.n {
			t.Errorf("Gamma of %s = %d, %d, to %d; expected %v", s, v, e, r.Pos(), want)
		}
	}
}

func TestDeltaLimit(t *testing.T) {
	for s, want := range map[string]result{
		gammaCode(64) + digits(0, 63):              {1 << 63, 76, api.OK},
		gammaCode(64) + digits(math.MaxUint64, 63): {math.MaxUint64, 76, api.OK},
		gammaCode(64) + digits(0, 62):              failure(api.ErrTruncated),
		gammaCode(65):                              failure(api.ErrCorrupt), // before its bits are missed
		gammaCode(65) + digits(0, 64):              failure(api.ErrCorrupt),
		gammaCode(65)[:12]:                         failure(api.ErrTruncated), // before the number is known
		gammaCode(math.MaxUint64) + digits(0, 64):  failure(api.ErrCorrupt),
		gammaCode(math.MaxUint64)[:126]:            failure(api.ErrTruncated),
		digits(0, 64):                              failure(api.ErrCorrupt),
		digits(0, 63):                              failure(api.ErrTruncated),
	} {
		r, _ := bitio.NewReader(pack(s), len(s))
		if v, e := r.Delta(); v != want.v || e != want.e || r.Pos() != want.n {
			t.Errorf("Delta of %s = %d, %d, to %d; expected %v", s, v, e, r.Pos(), want)
		}
	}
}

func TestReadBitsOrderOfErrors(t *testing.T) {
	r, _ := bitio.NewReader(nil, 0)
	for n, want := range map[int]api.Errno{
		math.MinInt: api.ErrArg, -1: api.ErrArg, 0: api.OK, 1: api.ErrTruncated,
		64: api.ErrTruncated, 65: api.ErrArg, math.MaxInt: api.ErrArg,
	} {
		if v, e := r.Bits(n); v != 0 || e != want || r.Pos() != 0 {
			t.Errorf("Bits(%d) = %d, %d, to %d; expected %d", n, v, e, r.Pos(), want)
		}
	}
}

func TestSeek(t *testing.T) {
	r, _ := bitio.NewReader([]byte{0xB0, 0x80}, 13)
	r.Seek(4)
	for _, pos := range []int{-1, 14, 16, math.MinInt, math.MaxInt} {
		if e := r.Seek(pos); e != api.ErrArg || r.Pos() != 4 {
			t.Errorf("Seek(%d) = %d; Pos() = %d", pos, e, r.Pos())
		}
	}
	if e := r.Seek(13); e != api.OK || r.Pos() != 13 {
		t.Errorf("Seek to the end = %d; Pos() = %d", e, r.Pos())
	}
	if v, e := r.Bits(0); v != 0 || e != api.OK {
		t.Errorf("no bits at the end: %d, %d", v, e)
	}
	if e := r.Seek(0); e != api.OK || r.Pos() != 0 {
		t.Errorf("Seek to the begin = %d; Pos() = %d", e, r.Pos())
	}
	if v, e := r.Bits(4); v != 11 || e != api.OK || r.Pos() != 4 {
		t.Errorf("after Seek: %d, %d, to %d", v, e, r.Pos())
	}
}

// P2.4

// call is a call of a method of the Writer, with its method of the Reader.
type call struct {
	kind int
	v    uint64
	n    int
}

func (c call) write(w *bitio.Writer) api.Errno {
	switch c.kind {
	case 0:
		return w.Bits(c.v, c.n)
	case 1:
		return w.Unary(int(c.v))
	case 2:
		return w.Gamma(c.v)
	}
	return w.Delta(c.v)
}

func (c call) read(r *bitio.Reader) (uint64, api.Errno) {
	switch c.kind {
	case 0:
		return r.Bits(c.n)
	case 1:
		v, e := r.Unary()
		return uint64(v), e
	case 2:
		return r.Gamma()
	}
	return r.Delta()
}

func (c call) code() string {
	switch c.kind {
	case 0:
		return digits(c.v, c.n)
	case 1:
		return unaryCode(int(c.v))
	case 2:
		return gammaCode(c.v)
	}
	return deltaCode(c.v)
}

// checkCalls writes a list of calls and reads it back, with other bits behind it.
func checkCalls(t *testing.T, calls []call) {
	t.Helper()
	w := bitio.NewWriter()
	want := ""
	for _, c := range calls {
		if e := c.write(w); e != api.OK {
			t.Fatalf("%v: error %d", c, e)
		}
		want += c.code()
	}
	expectBits(t, w, want)
	for _, after := range []string{"", "0", "1", "0000000000000", "1111111111111"} {
		all := want + after
		r, e := bitio.NewReader(pack(all), len(all))
		if e != api.OK {
			t.Fatal(e)
		}
		for i, c := range calls {
			if v, e := c.read(r); v != c.v || e != api.OK {
				t.Fatalf("call %d, %v, is read back as %d, %d", i, c, v, e)
			}
		}
		if r.Pos() != len(want) {
			t.Fatalf("read to %d of %d bits", r.Pos(), len(want))
		}
	}
}

// callOf makes a valid call of any numbers.
func callOf(kind int, v uint64, n int) call {
	switch kind {
	case 0:
		return call{0, v & (1<<n - 1), n}
	case 1:
		return call{1, v % 4097, 0}
	}
	return call{kind, max(v, 1), 0}
}

func TestRoundTrip(t *testing.T) {
	next := random(2)
	all := numbers()
	for range 300 {
		var calls []call
		for range next(40) {
			calls = append(calls, callOf(next(4), all[next(len(all))], next(65)))
		}
		checkCalls(t, calls)
	}
}

func FuzzRoundTrip(f *testing.F) {
	f.Add([]byte{0, 3, 5, 1, 0, 3, 2, 0, 5, 3, 0, 5})
	f.Fuzz(func(t *testing.T, b []byte) {
		var calls []call
		for ; len(b) >= 3 && len(calls) < 1000; b = b[3:] {
			calls = append(calls, callOf(int(b[0]%4), uint64(b[2])<<(b[0]>>2), int(b[1]%65)))
		}
		checkCalls(t, calls)
	})
}

func FuzzReader(f *testing.F) {
	f.Add([]byte{0, 0, 0, 0, 0, 0, 0, 0, 255}, 71)
	f.Fuzz(func(t *testing.T, b []byte, n int) {
		r, e := bitio.NewReader(b, n)
		if (e == api.OK) != (0 <= n && n <= 8*len(b)) {
			t.Fatal(len(b), n, e)
		}
		if e != api.OK || n > 1000 {
			return
		}
		s := unpack(b, n)
		for pos := range n + 1 {
			compareAt(t, r, s, pos)
		}
	})
}
