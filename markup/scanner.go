package markup

import (
	"strings"

	"corpora/api"
)

// scanner reads a tag from left to right. Its methods leave by a panic with a
// failure at the first error.
type scanner struct {
	text string
	at   int // offset of the next byte
}

// failure is an error with its offset.
type failure struct {
	at int
	e  api.Errno
}

// fail ends the reading.
func (s *scanner) fail(at int, e api.Errno) {
	panic(failure{at, e})
}

// skip reads a byte if it comes next, and reports whether it did.
func (s *scanner) skip(b string) bool {
	if !strings.HasPrefix(s.text[s.at:], b) {
		return false
	}
	s.at += len(b)
	return true
}

// expect reads a byte that has to come next.
func (s *scanner) expect(b string) {
	if !s.skip(b) {
		s.fail(s.at, api.ErrSyntax)
	}
}

// spaces reads any number of spaces, and reports whether there are any.
func (s *scanner) spaces() bool {
	rest := s.text[s.at:]
	n := len(rest) - len(strings.TrimLeft(rest, " "))
	s.at += n
	return n > 0
}

// tag reads a tag and the end of the text.
func (s *scanner) tag() Tag {
	var t Tag
	s.expect("<")
	t.Close = s.skip("/")
	t.Name = s.name()
	if !t.Close {
		t.Keys = s.keys()
	}
	s.expect(">")
	if s.at < len(s.text) {
		s.fail(s.at, api.ErrSyntax)
	}
	return t
}

// name reads a name.
func (s *scanner) name() string {
	begin := s.at
	n := nameLength(s.text[begin:])
	switch {
	case n == 0:
		s.fail(begin, api.ErrSyntax)
	case n > api.MaxName:
		s.fail(begin, api.ErrLimit)
	}
	s.at += n
	return s.text[begin:s.at]
}

// keys reads any number of keys and returns them in the order of their names.
func (s *scanner) keys() []api.Pair {
	var list []api.Pair
	for s.spaces() {
		name := s.keyName(list)
		s.expect("=")
		list = append(list, api.Pair{Name: name, Value: s.value()})
	}
	return sorted(list)
}

// keyName reads the name of a key that follows the earlier ones.
func (s *scanner) keyName(earlier []api.Pair) string {
	begin := s.at
	name := s.name()
	switch {
	case hasName(earlier, name):
		s.fail(begin, api.ErrDuplicate)
	case len(earlier) == api.MaxPairs:
		s.fail(begin, api.ErrLimit)
	}
	return name
}

// value reads a raw value in quotes and returns what it stands for.
func (s *scanner) value() string {
	s.expect("\"")
	begin := s.at
	raw := s.raw()
	s.expect("\"")
	value, at, e := Unescape(raw)
	if e != api.OK {
		s.fail(begin+at, e)
	}
	if e := ValidValue(value); e != api.OK {
		s.fail(begin, e)
	}
	return value
}

// raw reads up to a byte that cannot be part of a raw value, or to the end.
func (s *scanner) raw() string {
	rest := s.text[s.at:]
	if n := strings.IndexAny(rest, "\"<>"); n >= 0 {
		rest = rest[:n]
	}
	s.at += len(rest)
	return rest
}
