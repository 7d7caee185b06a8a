package lexicon_test

import (
	"bytes"
	"slices"
	"testing"

	"corpora/api"
	"corpora/lexicon"
)

// P13.5

// merged is what Merge returns.
type merged struct {
	z    *lexicon.Lexicon
	a, b []int
	e    api.Errno
}

func merging(x, y *lexicon.Lexicon) merged {
	z, a, b, e := lexicon.Merge(x, y)
	return merged{z, a, b, e}
}

// valuesOf returns values of which x is the lexicon.
func valuesOf(x *lexicon.Lexicon) []string {
	var values []string
	for n := range x.Size() {
		w, _ := x.Word(n)
		values = append(values, times(x.Count(n), w)...)
	}
	return values
}

// checkNumbers checks that numbers are those of the words of x in z.
func checkNumbers(t *testing.T, x, z *lexicon.Lexicon, numbers []int) {
	t.Helper()
	if len(numbers) != x.Size() {
		t.Fatalf("there are %d numbers of %d words", len(numbers), x.Size())
	}
	for n, number := range numbers {
		from, _ := x.Word(n)
		if to, ok := z.Word(number); !ok || to != from {
			t.Fatalf("the number of %q is %d, which is that of %q", from, number, to)
		}
	}
}

// checkMerge compares what is merged of x and y with what is built of their values.
func checkMerge(t *testing.T, x, y *lexicon.Lexicon) {
	t.Helper()
	codes := [][]byte{x.Encode(), y.Encode()}
	got := merging(x, y)
	z, _, e := lexicon.Build(slices.Concat(valuesOf(x), valuesOf(y)))
	if !bytes.Equal(x.Encode(), codes[0]) || !bytes.Equal(y.Encode(), codes[1]) {
		t.Fatal("Merge has changed an argument")
	}
	if e != got.e || e != api.OK && (got.z != nil || len(got.a)+len(got.b) > 0) {
		t.Fatalf("Merge of %d and %d words: %d; expected %d", x.Size(), y.Size(), got.e, e)
	}
	if e != api.OK {
		return
	}
	if !bytes.Equal(got.z.Encode(), z.Encode()) {
		t.Fatalf("Merge of %q and %q = %q", valuesOf(x), valuesOf(y), valuesOf(got.z))
	}
	if !slices.Equal(got.z.ByReverse(), z.ByReverse()) || !slices.Equal(got.z.ByCount(), z.ByCount()) {
		t.Fatalf("Merge of %q and %q has other orders", valuesOf(x), valuesOf(y))
	}
	checkNumbers(t, x, z, got.a)
	checkNumbers(t, y, z, got.b)
}

func TestMerge(t *testing.T) {
	x, _ := built(t, "b", "a", "ab", "a")
	y, _ := built(t, "c", "ab", "", "c", "é")
	got := merging(x, y)
	if got.e != api.OK || !slices.Equal(got.a, []int{1, 2, 3}) || !slices.Equal(got.b, []int{0, 2, 4, 5}) {
		t.Fatalf("Merge = %d, %d, %d", got.a, got.b, got.e)
	}
	checkState(t, got.z, []string{"", "a", "a", "ab", "ab", "b", "c", "c", "é"}, []string{"", "a", "b", "c", "\xa9"})
	if back := merging(y, x); !slices.Equal(back.a, got.b) || !slices.Equal(back.b, got.a) || !bytes.Equal(back.z.Encode(), got.z.Encode()) {
		t.Errorf("Merge the other way = %d, %d, %d", back.a, back.b, back.e)
	}
	if own := merging(x, x); own.e != api.OK || own.z.Count(0) != 4 || !slices.Equal(own.a, []int{0, 1, 2}) || !slices.Equal(own.b, own.a) {
		t.Errorf("Merge with itself = %d, %d, %d", own.a, own.b, own.e)
	}
	none, _ := built(t)
	for _, z := range []*lexicon.Lexicon{none, x, y} {
		checkMerge(t, none, z)
		checkMerge(t, z, none)
	}
}

func TestMergeOfAllShortLists(t *testing.T) {
	var all []*lexicon.Lexicon
	for _, values := range lists(3, "", "a", "ab", "b") {
		x, _ := built(t, values...)
		all = append(all, x)
	}
	for _, x := range all {
		for _, y := range all {
			checkMerge(t, x, y)
		}
	}
}

func TestMergeOfScatteredLists(t *testing.T) {
	next := dice(133)
	for range 500 {
		length := 1 + next(4)
		x, _ := built(t, scatter(next, next(80), length, "a", "b", "é", "😀")...)
		y, _ := built(t, scatter(next, next(80), length, "a", "b", "é", "è")...)
		z, e := lexicon.Decode(y.Encode())
		if e != api.OK {
			t.Fatal(e)
		}
		checkMerge(t, x, z)
	}
}

func TestMergeLimits(t *testing.T) {
	half := each(512, func(i int) string { return "a" + numerals(512)[i] })
	for _, c := range []struct {
		first, second []string
		want          api.Errno
	}{
		{cycle(4095, 9), cycle(1, 1), api.OK}, {cycle(4096, 9), nil, api.OK}, {nil, cycle(4096, 1024), api.OK}, {cycle(2048, 1024), cycle(2048, 1024), api.OK}, {times(2048, "a"), times(2048, "b"), api.OK},
		{cycle(4096, 9), cycle(1, 1), api.ErrLimit}, {cycle(1, 1), cycle(4096, 9), api.ErrLimit}, {cycle(2048, 9), cycle(2049, 9), api.ErrLimit}, {cycle(4096, 1024), cycle(4096, 1024), api.ErrLimit}, {times(4096, "a"), times(4096, "b"), api.ErrLimit},
		{numerals(512), half, api.OK}, {numerals(1023), []string{"x"}, api.OK}, {numerals(1024), numerals(1024), api.OK}, {cycle(3072, 1024), numerals(1024), api.OK},
		{numerals(513), half, api.ErrLimit}, {numerals(1024), []string{"x"}, api.ErrLimit}, {[]string{"x"}, numerals(1024), api.ErrLimit}, {numerals(1024), half, api.ErrLimit}, {cycle(3072, 1024), append(numerals(1023), "x"), api.ErrLimit}, {cycle(4096, 1024), []string{"x"}, api.ErrLimit},
	} {
		x, _ := built(t, c.first...)
		y, _ := built(t, c.second...)
		if got := merging(x, y); got.e != c.want {
			t.Errorf("Merge of %d values and %d: %d; expected %d", len(c.first), len(c.second), got.e, c.want)
		}
		checkMerge(t, x, y)
	}
}

func TestMergeReturnsNewMemory(t *testing.T) {
	x, _ := built(t, "b", "a", "ab", "a")
	for _, y := range []*lexicon.Lexicon{x, mergedWithNothing(t, x)} {
		got, again := merging(x, y), merging(x, y)
		for _, numbers := range [][]int{got.a, got.z.ByCount(), got.z.ByReverse()} {
			numbers = numbers[:cap(numbers)]
			for i := range numbers {
				numbers[i] = -9
			}
		}
		if !slices.Equal(got.b, []int{0, 1, 2}) || !slices.Equal(again.a, got.b) {
			t.Errorf("results of Merge share memory: %d, %d", got.b, again.a)
		}
		checkState(t, x, []string{"b", "a", "ab", "a"}, []string{"", "a", "b"})
		checkState(t, got.z, []string{"b", "a", "ab", "a", "b", "a", "ab", "a"}, []string{"", "a", "b"})
	}
}

// mergedWithNothing returns x merged with a lexicon without words.
func mergedWithNothing(t *testing.T, x *lexicon.Lexicon) *lexicon.Lexicon {
	t.Helper()
	none, _ := built(t)
	got := merging(x, none)
	if got.e != api.OK || len(got.b) != 0 {
		t.Fatalf("Merge with no words = %d, %d", got.b, got.e)
	}
	return got.z
}
