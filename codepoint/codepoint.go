// Package codepoint divides strings into code points: see doc/01-codepoint.md.
package codepoint

import (
	"cmp"
	"strings"

	"corpora/api"
)

// Valid reports whether s is valid UTF-8.
func Valid(s string) bool {
	for u := range units(s) {
		if u.invalid() {
			return false
		}
	}
	return true
}

// Count returns the number of units of s.
func Count(s string) int {
	count := 0
	for range units(s) {
		count++
	}
	return count
}

// At returns the code point, the offset and the size of unit i of s.
func At(s string, i int) (r rune, at, size int, ok bool) {
	number := 0
	for u := range units(s) {
		if number == i {
			return u.point, u.at, len(u.text), true
		}
		number++
	}
	return 0, 0, 0, false
}

// Position returns the line and the column of a byte offset.
func Position(s string, at int) api.Pos {
	pos := api.Pos{Line: 1, Column: 1}
	// The units are those of the whole string: a unit that is cut by the
	// offset begins before it and counts once. Offsets outside of the string
	// need no clamping, because no unit begins there.
	for u := range units(s) {
		if u.at >= at {
			break
		}
		if u.point == '\n' {
			pos.Line++
			pos.Column = 1
		} else {
			pos.Column++
		}
	}
	return pos
}

// Fold replaces upper-case letters by lower-case letters.
func Fold(s string) string {
	var folded strings.Builder
	for u := range units(s) {
		if u.invalid() {
			folded.WriteString(u.text)
		} else {
			folded.WriteString(string(lower(u.point)))
		}
	}
	return folded.String()
}

// Reverse returns the units of s in reverse order.
func Reverse(s string) string {
	reversed := make([]byte, len(s))
	for u := range units(s) {
		copy(reversed[len(s)-u.at-len(u.text):], u.text)
	}
	return string(reversed)
}

// Compare compares two strings by code points.
func Compare(a, b string) int {
	rest := b
	for u := range units(a) {
		r, _, size, ok := At(rest, 0)
		if !ok {
			return 1
		}
		if order := cmp.Compare(u.point, r); order != 0 {
			return order
		}
		rest = rest[size:]
	}
	if rest != "" {
		return -1
	}
	return strings.Compare(a, b)
}
