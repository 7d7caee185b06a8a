package depend_test

import (
	"fmt"
	"regexp"
	"slices"
	"strconv"
	"strings"
	"testing"

	"corpora/api"
	"corpora/codepoint"
	"corpora/depend"
)

// The reference follows each way anew for each question. It finds the tokens between
// two tokens by going through all arcs in widening circles, looks at each token below
// each arc, and decides about the lines of a text with regular expressions.

// leads reports whether the way from a token comes to another one, or back to it.
func leads(heads []int, from, to int) bool {
	at := from
	for range heads {
		at = heads[at]
		if at == to || at == -1 {
			return at == to
		}
	}
	return false
}

func check(heads []int) (int, api.Errno) {
	if len(heads) > 4096 {
		return 0, api.ErrLimit
	}
	for i, h := range heads {
		if h < -1 || h >= len(heads) {
			return i, api.ErrRange
		}
	}
	for i := range heads {
		if leads(heads, i, i) {
			return i, api.ErrCycle
		}
	}
	return 0, api.OK
}

// areTokens reports whether heads are valid and the numbers are indices.
func areTokens(heads []int, numbers ...int) bool {
	for _, i := range numbers {
		if i < 0 || i >= len(heads) {
			return false
		}
	}
	_, e := check(heads)
	return e == api.OK
}

func depth(heads []int, i int) int {
	if !areTokens(heads, i) {
		return -1
	}
	ancestors := 0
	for a := range heads {
		if leads(heads, i, a) {
			ancestors++
		}
	}
	return ancestors
}

func path(heads []int, a, b int) ([]int, api.Errno) {
	if !areTokens(heads, a, b) {
		return nil, api.ErrArg
	}
	next := map[int]int{b: b} // for each token that was met, the one that is nearer to b
	for circle := []int{b}; len(circle) > 0; circle = circle[1:] {
		for i := range heads {
			_, met := next[i]
			if arc := heads[i] == circle[0] || heads[circle[0]] == i; arc && !met {
				next[i] = circle[0]
				circle = append(circle, i)
			}
		}
	}
	if _, met := next[a]; !met {
		return nil, api.ErrMissing
	}
	list := []int{a}
	for a != b {
		a = next[a]
		list = append(list, a)
	}
	return list, api.OK
}

func projective(heads []int) bool {
	if !areTokens(heads) {
		return false
	}
	for d, h := range heads {
		if h == -1 {
			continue
		}
		for i := min(d, h) + 1; i < max(d, h); i++ {
			if !leads(heads, i, h) {
				return false
			}
		}
	}
	return true
}

// parsed is what Parse returns.
type parsed struct {
	heads     []int
	relations []string
	pos       api.Pos
	e         api.Errno
}

func parsing(data string, tokens int) parsed {
	heads, relations, pos, e := depend.Parse(data, tokens)
	return parsed{heads, relations, pos, e}
}

func same(a, b parsed) bool {
	return slices.Equal(a.heads, b.heads) && slices.Equal(a.relations, b.relations) && a.pos == b.pos && a.e == b.e
}

var (
	anyLine    = regexp.MustCompile(`[^\n]*\n|[^\n]+\z`)
	number     = regexp.MustCompile(`\A[0-9]*`)
	wrongZero  = regexp.MustCompile(`\A0[0-9]`)
	withTab    = regexp.MustCompile(`\A[0-9]+\t`)
	complete   = regexp.MustCompile(`\A([0-9]+)\t((?:[A-Za-z_][A-Za-z0-9_-]{0,31})?)\n?\z`)
	isRelation = regexp.MustCompile(`\A(?:[A-Za-z_][A-Za-z0-9_-]{0,31})?\z`)
)

// rule is an error at an offset in a line with the answer to the question whether it applies.
type rule struct {
	e      api.Errno
	at     int
	broken bool
}

// lineRules returns the rules for a line that has a number of lines before it.
func lineRules(line string, before, tokens int) []rule {
	digits := number.FindString(line)
	greatest := strconv.Itoa(tokens)
	greater := len(digits) > len(greatest) || len(digits) == len(greatest) && digits > greatest
	return []rule{
		{api.ErrCount, 0, before >= tokens},
		{api.ErrSyntax, 0, digits == ""},
		{api.ErrSyntax, 1, wrongZero.MatchString(line)},
		{api.ErrSyntax, len(digits), !withTab.MatchString(line)},
		{api.ErrRange, 0, greater},
		{api.ErrName, len(digits) + 1, !complete.MatchString(line)},
	}
}

func parse(data string, tokens int) parsed {
	switch {
	case tokens < 0 || tokens > 4096:
		return parsed{e: api.ErrArg}
	case len(data) > 1<<20:
		return parsed{e: api.ErrLimit}
	}
	var p parsed
	lines := anyLine.FindAllStringIndex(data, tokens+1) // a line behind these cannot be the first one with an error
	for before, place := range lines {
		line := data[place[0]:place[1]]
		for _, r := range lineRules(line, before, tokens) {
			if r.broken {
				return parsed{pos: codepoint.Position(data, place[0]+r.at), e: r.e}
			}
		}
		parts := complete.FindStringSubmatch(line)
		head, _ := strconv.Atoi(parts[1])
		p.heads, p.relations = append(p.heads, head-1), append(p.relations, parts[2])
	}
	if len(lines) < tokens {
		return parsed{pos: codepoint.Position(data, len(data)), e: api.ErrCount}
	}
	if i, e := check(p.heads); e != api.OK {
		return parsed{pos: codepoint.Position(data, lines[i][0]), e: e}
	}
	return p
}

func write(heads []int, relations []string) (string, api.Errno) {
	if _, e := check(heads); e != api.OK {
		return "", e
	}
	if len(heads) != len(relations) {
		return "", api.ErrCount
	}
	text := ""
	for i, relation := range relations {
		if !isRelation.MatchString(relation) {
			return "", api.ErrName
		}
		text += fmt.Sprintf("%d\t%s\n", 1+heads[i], relation)
	}
	return text, api.OK
}

// checkWhole compares what concerns all heads with the reference.
func checkWhole(t *testing.T, heads []int) {
	t.Helper()
	before := slices.Clone(heads)
	i, e := depend.Check(heads)
	if k, f := check(heads); i != k || e != f {
		t.Fatalf("Check(%v) = %d, %d; expected %d, %d", heads, i, e, k, f)
	}
	if got, want := depend.Projective(heads), projective(heads); got != want {
		t.Fatalf("Projective(%v) = %t", heads, got)
	}
	if !slices.Equal(heads, before) {
		t.Fatalf("the argument has changed from %v to %v", before, heads)
	}
}

// checkHeads compares all that concerns heads with the reference.
func checkHeads(t *testing.T, heads []int) {
	t.Helper()
	checkWhole(t, heads)
	before := slices.Clone(heads)
	for a := -1; a <= len(heads); a++ {
		if got, want := depend.Depth(heads, a), depth(heads, a); got != want {
			t.Fatalf("Depth(%v, %d) = %d; expected %d", heads, a, got, want)
		}
		for b := -1; b <= len(heads); b++ {
			got, e := depend.Path(heads, a, b)
			if want, f := path(heads, a, b); !slices.Equal(got, want) || e != f {
				t.Fatalf("Path(%v, %d, %d) = %v, %d; expected %v, %d", heads, a, b, got, e, want, f)
			}
		}
	}
	if !slices.Equal(heads, before) {
		t.Fatalf("the argument has changed from %v to %v", before, heads)
	}
}

// checkParse compares Parse with the reference; what it returns is written again.
func checkParse(t *testing.T, data string, tokens int) {
	t.Helper()
	got, want := parsing(data, tokens), parse(data, tokens)
	if !same(got, want) {
		t.Fatalf("Parse(%.200q, %d) = %+v; expected %+v", data, tokens, got, want)
	}
	if got.e != api.OK {
		return
	}
	// There is only one way to write heads and relations, but for the last line feed.
	text, e := depend.Format(got.heads, got.relations)
	if e != api.OK || text != data && text != data+"\n" {
		t.Fatalf("Format of what was read from %.200q = %.200q, %d", data, text, e)
	}
}

// checkFormat compares Format with the reference, and reads the text again.
func checkFormat(t *testing.T, heads []int, relations []string) {
	t.Helper()
	oldHeads, oldRelations := slices.Clone(heads), slices.Clone(relations)
	got, e := depend.Format(heads, relations)
	want, f := write(heads, relations)
	if got != want || e != f {
		t.Fatalf("Format(%v, %q) = %q, %d; expected %q, %d", heads, relations, got, e, want, f)
	}
	if !slices.Equal(heads, oldHeads) || !slices.Equal(relations, oldRelations) {
		t.Fatalf("Format has changed its arguments to %v, %q", heads, relations)
	}
	if e != api.OK {
		return
	}
	for _, text := range []string{got, strings.TrimSuffix(got, "\n")} {
		if back := parsing(text, len(heads)); !same(back, parsed{heads: heads, relations: relations}) {
			t.Fatalf("Parse(%q, %d) = %+v; expected %v, %q", text, len(heads), back, heads, relations)
		}
	}
}
