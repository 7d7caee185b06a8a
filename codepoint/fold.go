package codepoint

// lower returns the code point that Fold puts in place of r.
func lower(r rune) rune {
	switch {
	case r == 0xD7 || r == 0x3A2: // no letters: the multiplication sign, and a gap in the Greek alphabet
		return r
	case isIn(r, 'A', 'Z'), isIn(r, 0xC0, 0xDE), isIn(r, 0x391, 0x3A9), isIn(r, 0x410, 0x42F):
		return r + 32
	case isIn(r, 0x400, 0x40F):
		return r + 80
	}
	return r
}

// isIn reports whether r lies between two code points, both included.
func isIn(r, from, to rune) bool { return from <= r && r <= to }
