package lexicon_test

import (
	"bytes"
	"slices"
	"strings"
	"testing"

	"corpora/api"
	"corpora/checksum"
	"corpora/lexicon"
)

// The reference goes through all values of a list for each question. It writes the bytes
// of numbers on its own, and it reads nothing: the bytes that can be decoded are those
// that it writes.

// wordsOf returns the different values of a list in bytewise order.
func wordsOf(values []string) []string {
	different := map[string]bool{}
	for _, v := range values {
		different[v] = true
	}
	words := make([]string, len(different))
	for v := range different {
		words[numberOf(different, v)] = v
	}
	return words
}

// numberOf returns how many values are less than one of them.
func numberOf(different map[string]bool, v string) int {
	number := 0
	for w := range different {
		if bytes.Compare([]byte(w), []byte(v)) < 0 {
			number++
		}
	}
	return number
}

// countOf returns how many values are equal to a word.
func countOf(values []string, w string) int {
	return len(slices.DeleteFunc(slices.Clone(values), func(v string) bool { return v != w }))
}

// reversed returns the code points of a valid string in reverse order.
func reversed(s string) string {
	points := []rune(s)
	slices.Reverse(points)
	return string(points)
}

// numbersWhere returns the numbers of the words that fit, in an order, and in ascending
// order where that says nothing.
func numbersWhere(words []string, fits func(string) bool, less func(a, b int) bool) []int {
	var numbers []int
	for n, w := range words {
		if !fits(w) {
			continue
		}
		place := 0
		for place < len(numbers) && !less(n, numbers[place]) {
			place++
		}
		numbers = slices.Insert(numbers, place, n)
	}
	return numbers
}

// all fits all words.
func all(string) bool { return true }

// byReverse returns the order of the reversed words.
func byReverse(words []string) func(a, b int) bool {
	keys := each(len(words), func(n int) string { return reversed(words[n]) })
	return func(a, b int) bool { return keys[a] < keys[b] }
}

// byCount returns the descending order of the counts.
func byCount(values []string) func(a, b int) bool {
	l := entriesOf(values)
	return func(a, b int) bool { return l[a].count > l[b].count }
}

// putNumber returns b followed by groups of seven bits.
func putNumber(b []byte, v int) []byte {
	for ; v > 127; v /= 128 {
		b = append(b, byte(v%128+128))
	}
	return append(b, byte(v))
}

// entry is a word with its count in an encoding.
type entry struct {
	word  string
	count int
}

// entriesOf returns the words of a list with their counts.
func entriesOf(values []string) []entry {
	var l []entry
	for _, w := range wordsOf(values) {
		l = append(l, entry{w, countOf(values, w)})
	}
	return l
}

// payload returns what is sealed of an encoding, which need not be one of a lexicon.
func payload(l []entry) []byte {
	b := putNumber(nil, len(l))
	before := ""
	for _, x := range l {
		shared := 0
		for n := range len(x.word) + 1 {
			if strings.HasPrefix(before, x.word[:n]) {
				shared = n
			}
		}
		b = putNumber(b, shared)
		b = append(putNumber(b, len(x.word)-shared), x.word[shared:]...)
		b = putNumber(b, x.count-1)
		before = x.word
	}
	return b
}

// checkWords compares what a lexicon says of its words with the reference.
func checkWords(t *testing.T, x *lexicon.Lexicon, values, words []string) {
	t.Helper()
	if x.Size() != len(words) {
		t.Fatalf("there are %d words of %q; expected %d", x.Size(), values, len(words))
	}
	for n, w := range words {
		got, ok := x.Word(n)
		number, found := x.Number(w)
		if got != w || !ok || number != n || !found || x.Count(n) != countOf(values, w) {
			t.Fatalf("word %d of %q is %q, %t, with the number %d, %t, and the count %d; expected %q", n, values, got, ok, number, found, x.Count(n), w)
		}
	}
	for _, n := range []int{-1, len(words)} {
		if w, ok := x.Word(n); w != "" || ok || x.Count(n) != 0 {
			t.Fatalf("word %d of %q is %q, %t, with the count %d", n, values, w, ok, x.Count(n))
		}
	}
}

// checkSearch compares what is found with strings with the reference.
func checkSearch(t *testing.T, x *lexicon.Lexicon, words []string, probes []string) {
	t.Helper()
	for _, s := range probes {
		if n, ok := x.Number(s); ok != slices.Contains(words, s) || !ok && n != 0 || ok && words[n] != s {
			t.Fatalf("Number(%q) of %q = %d, %t", s, words, n, ok)
		}
		var want [2]int
		with := numbersWhere(words, func(w string) bool { return strings.HasPrefix(w, s) }, func(a, b int) bool { return a < b })
		if len(with) > 0 {
			want = [2]int{with[0], with[len(with)-1] + 1}
		}
		if from, to := x.Prefix(s); from != want[0] || to != want[1] {
			t.Fatalf("Prefix(%q) of %q = %d, %d; expected %d", s, words, from, to, want)
		}
		ends := numbersWhere(words, func(w string) bool { return strings.HasSuffix(w, s) }, byReverse(words))
		if got := x.Suffix(s); !slices.Equal(got, ends) {
			t.Fatalf("Suffix(%q) of %q = %d; expected %d", s, words, got, ends)
		}
	}
}

// checkState compares all methods of a lexicon of values with the reference.
func checkState(t *testing.T, x *lexicon.Lexicon, values []string, probes []string) {
	t.Helper()
	words := wordsOf(values)
	checkWords(t, x, values, words)
	checkSearch(t, x, words, probes)
	if got, want := x.ByReverse(), numbersWhere(words, all, byReverse(words)); !slices.Equal(got, want) {
		t.Fatalf("ByReverse of %q = %d; expected %d", words, got, want)
	}
	if got, want := x.ByCount(), numbersWhere(words, all, byCount(values)); !slices.Equal(got, want) {
		t.Fatalf("ByCount of %q = %d; expected %d", values, got, want)
	}
	if got, want := x.Encode(), checksum.Seal(payload(entriesOf(values))); !bytes.Equal(got, want) {
		t.Fatalf("Encode of %q = %v; expected %v", values, got, want)
	}
}

// checkLexicon compares Build and all methods of the lexicon of values with the reference,
// also after the lexicon has been encoded and decoded.
func checkLexicon(t *testing.T, values []string, probes []string) {
	t.Helper()
	before := slices.Clone(values)
	x, numbers := built(t, values...)
	words := wordsOf(values)
	for i, v := range values {
		if numbers[i] < 0 || numbers[i] >= len(words) || words[numbers[i]] != v {
			t.Fatalf("the numbers of %q are %d", values, numbers)
		}
	}
	y, e := lexicon.Decode(checksum.Seal(payload(entriesOf(values))))
	if y == nil || e != api.OK {
		t.Fatalf("the encoding of %q is not decoded: %d", values, e)
	}
	for _, z := range []*lexicon.Lexicon{x, y} {
		checkState(t, z, values, probes)
	}
	if !slices.Equal(values, before) {
		t.Fatalf("the argument has changed from %q to %q", before, values)
	}
}
