package codepoint

import (
	"iter"
	"strings"
	"unicode/utf8"
)

// unit is a code point of a string, or a byte that is not part of one.
type unit struct {
	point rune
	at    int    // byte offset in the string
	text  string // its bytes
}

// invalid tells a stray byte from the encoded code point 0xFFFD, which has three bytes.
func (u unit) invalid() bool {
	return u.point == utf8.RuneError && len(u.text) == 1
}

// units yields the units of s in order.
func units(s string) iter.Seq[unit] {
	return func(yield func(unit) bool) {
		for at, r := range s {
			if !yield(unit{r, at, s[at : at+sizeAt(s, at, r)]}) {
				return
			}
		}
	}
}

// sizeAt returns the number of bytes of the unit at an offset of s, whose code point is r.
func sizeAt(s string, at int, r rune) int {
	if r == utf8.RuneError && !strings.HasPrefix(s[at:], string(utf8.RuneError)) {
		return 1
	}
	return utf8.RuneLen(r)
}
