package depend

import (
	"strconv"
	"strings"

	"corpora/api"
)

// reader holds what the lines of a text have told so far.
type reader struct {
	tokens    int   // the number of tokens of the text
	begins    []int // the offset of the line of each token
	heads     []int
	relations []string
}

// text reads all lines. With an error, it returns its offset.
func (r *reader) text(data string) (int, api.Errno) {
	begin := 0
	for line := range strings.Lines(data) {
		if at, e := r.line(strings.TrimSuffix(line, "\n")); e != api.OK {
			return begin + at, e
		}
		r.begins = append(r.begins, begin)
		begin += len(line)
	}
	if len(r.heads) < r.tokens {
		return len(data), api.ErrCount
	}
	// No head is out of range, so that only a cycle can be wrong.
	if i, e := Check(r.heads); e != api.OK {
		return r.begins[i], e
	}
	return 0, api.OK
}

// line reads the line of a token. With an error, it returns its offset in the line.
func (r *reader) line(line string) (int, api.Errno) {
	behind := strings.TrimLeft(line, "0123456789")
	digits := line[:len(line)-len(behind)]
	relation, tab := strings.CutPrefix(behind, "\t")
	switch {
	case len(r.heads) == r.tokens:
		return 0, api.ErrCount
	case digits == "":
		return 0, api.ErrSyntax
	case len(digits) > 1 && digits[0] == '0':
		return 1, api.ErrSyntax
	case !tab:
		return len(digits), api.ErrSyntax
	}
	number, err := strconv.Atoi(digits)
	switch {
	case err != nil || number > r.tokens: // digits alone fail only if there are too many of them
		return 0, api.ErrRange
	case !validRelation(relation):
		return len(line) - len(relation), api.ErrName
	}
	// The number of a root is 0, and the head of a root -1.
	r.heads = append(r.heads, number-1)
	r.relations = append(r.relations, relation)
	return 0, api.OK
}
