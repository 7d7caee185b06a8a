package bracket

// stack holds the indices of the open constituents, each in front of those within it.
type stack []int

// push opens a constituent.
func (s *stack) push(i int) {
	*s = append(*s, i)
}

// top returns the innermost open constituent, or -1 if none is open.
func (s stack) top() int {
	if len(s) == 0 {
		return -1
	}
	return s[len(s)-1]
}

// pop closes the innermost open constituent.
func (s *stack) pop() {
	*s = (*s)[:len(*s)-1]
}
