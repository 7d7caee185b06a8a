package bracket

import (
	"strings"

	"corpora/api"
)

// reader holds what the bytes of a text have told so far.
type reader struct {
	data   string
	at     int // the offset of the next byte
	tokens int // the number of tokens of the text
	next   int // the token that the next * stands for
	nodes  []api.Node
	open   stack
}

// text reads all bytes. With an error, it stops where the error is.
func (r *reader) text() api.Errno {
	for r.skipBlanks() {
		if e := r.part(); e != api.OK {
			return e
		}
	}
	switch {
	case len(r.open) > 0:
		return api.ErrTruncated
	case r.next < r.tokens:
		return api.ErrCount
	}
	return api.OK
}

// skipBlanks reads blanks and reports whether something follows them.
func (r *reader) skipBlanks() bool {
	rest := strings.TrimLeft(r.data[r.at:], " \n")
	r.at = len(r.data) - len(rest)
	return rest != ""
}

// part reads a token, or what stands at an end of a constituent.
func (r *reader) part() api.Errno {
	switch r.data[r.at] {
	case '*':
		return r.token()
	case '(':
		return r.begin()
	case ')':
		if len(r.open) > 0 {
			return r.end()
		}
		fallthrough
	default:
		return api.ErrSyntax
	}
}

// token reads a *.
func (r *reader) token() api.Errno {
	if r.next == r.tokens {
		return api.ErrCount
	}
	r.next++
	r.at++
	return api.OK
}

// begin reads a ( and the label behind it.
func (r *reader) begin() api.Errno {
	if len(r.nodes) == api.MaxNodes || len(r.open) == api.MaxDepth {
		return api.ErrLimit
	}
	r.at++
	label, e := r.label()
	if e != api.OK {
		return e
	}
	r.nodes = append(r.nodes, api.Node{Label: label, Begin: r.next, Parent: r.open.top()})
	r.open.push(len(r.nodes) - 1)
	return api.OK
}

// label reads a label and the blanks in front of it.
func (r *reader) label() (string, api.Errno) {
	if !r.skipBlanks() {
		return "", api.ErrTruncated
	}
	length := labelLength(r.data[r.at:])
	switch {
	case length == 0:
		return "", api.ErrSyntax
	case length > api.MaxName:
		return "", api.ErrLimit
	}
	label := r.data[r.at : r.at+length]
	r.at += length
	return label, api.OK
}

// labelLength returns the length of the label with which s begins, or 0 if it begins with none.
func labelLength(s string) int {
	n := 0
	for n < len(s) && (isLetter(s[n]) || n > 0 && isInner(s[n])) {
		n++
	}
	return n
}

// isLetter reports whether a label can begin with c.
func isLetter(c byte) bool {
	return 'A' <= c && c <= 'Z' || 'a' <= c && c <= 'z' || c == '_'
}

// isInner reports whether c can stand in a label, but not begin it.
func isInner(c byte) bool {
	return '0' <= c && c <= '9' || c == '-'
}

// end reads a ) that closes a constituent.
func (r *reader) end() api.Errno {
	node := &r.nodes[r.open.top()]
	if node.Begin == r.next {
		return api.ErrRange
	}
	node.End = r.next
	r.open.pop()
	r.at++
	return api.OK
}
