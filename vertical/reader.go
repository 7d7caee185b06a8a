package vertical

import (
	"slices"
	"strings"

	"corpora/api"
	"corpora/feature"
	"corpora/markup"
)

// reader holds what the lines of a file have told so far.
type reader struct {
	c      api.Corpus
	inText bool
	open   []int // the indices of the open regions, in the order of their opening tags
	tags   map[kind]tagReader
}

// tagReader reads a tag of some kind.
type tagReader func(*reader, markup.Tag) api.Errno

// newReader returns a reader for a file with these attributes.
func newReader(attrs []api.Attribute) *reader {
	return &reader{c: api.Corpus{Attributes: slices.Clone(attrs)}, tags: tagReaders()}
}

// file reads all lines. With an error, it returns its offset.
func (r *reader) file(data string) (int, api.Errno) {
	for rest := data; rest != ""; {
		line, next, _ := strings.Cut(rest, "\n")
		if at, e := r.line(line); e != api.OK {
			return len(data) - len(rest) + at, e
		}
		rest = next
	}
	if r.inText {
		return len(data), api.ErrTruncated
	}
	return 0, api.OK
}

// line reads a line. With an error, it returns its offset in the line.
func (r *reader) line(line string) (int, api.Errno) {
	if strings.HasPrefix(line, "<") {
		return r.tag(line)
	}
	return r.token(line)
}

// tag reads a line that has to be a tag.
func (r *reader) tag(line string) (int, api.Errno) {
	tag, at, e := markup.ParseTag(line)
	if e != api.OK {
		return at, e
	}
	return 0, r.tags[kindOf(tag)](r, tag)
}

// token reads a line with the values of a token.
func (r *reader) token(line string) (int, api.Errno) {
	switch {
	case !r.inText:
		return 0, api.ErrType
	case len(r.c.Tokens) == api.MaxTokens:
		return 0, api.ErrLimit
	}
	attrs := r.c.Attributes
	values := make([]string, 0, len(attrs))
	begin := 0
	for raw := range strings.SplitSeq(line, "\t") {
		if len(values) == len(attrs) {
			return begin, api.ErrCount
		}
		value, at, e := readValue(attrs[len(values)], raw)
		if e != api.OK {
			return begin + at, e
		}
		values = append(values, value)
		begin += len(raw) + len("\t")
	}
	if len(values) < len(attrs) {
		return len(line), api.ErrCount
	}
	r.c.Tokens = append(r.c.Tokens, values)
	return 0, api.OK
}

// readValue returns the value of an attribute that a raw value stands for. With
// an error, it returns its offset.
func readValue(a api.Attribute, raw string) (string, int, api.Errno) {
	value, at, e := markup.Unescape(raw)
	switch {
	case e != api.OK:
		return "", at, e
	case a.Set:
		_, e = feature.Parse(value)
	default:
		e = markup.ValidValue(value)
	}
	return value, 0, e
}
