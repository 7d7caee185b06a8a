package lexicon

import (
	"cmp"
	"slices"
	"strings"

	"corpora/codepoint"
)

// reverseOrder returns the numbers of words in the order of the reversed words.
func reverseOrder(words []string) []int {
	reverses := make([]string, len(words))
	for n, w := range words {
		reverses[n] = codepoint.Reverse(w)
	}
	return numbersBy(len(words), func(a, b int) int { return strings.Compare(reverses[a], reverses[b]) })
}

// countOrder returns the numbers of counts in descending order of the counts.
func countOrder(counts []int) []int {
	return numbersBy(len(counts), func(a, b int) int { return cmp.Compare(counts[b], counts[a]) })
}

// numbersBy returns n numbers from 0 on in the order of a comparison, and equal ones in
// ascending order.
func numbersBy(n int, compare func(a, b int) int) []int {
	numbers := make([]int, n)
	for i := range numbers {
		numbers[i] = i
	}
	slices.SortStableFunc(numbers, compare)
	return numbers
}
