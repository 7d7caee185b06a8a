package bracket_test

import (
	"regexp"
	"slices"
	"strings"
	"testing"

	"corpora/api"
	"corpora/bracket"
	"corpora/codepoint"
	"corpora/corpus"
)

// The reference divides a text into its parts by a regular expression and decides
// about each part with all parts before it; a constituent ends where as many
// brackets have closed as have opened from its own on. It checks each node with all
// nodes before it, and writes constituents by recursion.

// parsed is what Parse returns.
type parsed struct {
	nodes []api.Node
	pos   api.Pos
	e     api.Errno
}

func parsing(data string, tokens int) parsed {
	nodes, pos, e := bracket.Parse(data, tokens)
	return parsed{nodes, pos, e}
}

func same(a, b parsed) bool {
	return slices.Equal(a.nodes, b.nodes) && a.pos == b.pos && a.e == b.e
}

var (
	anyPart  = regexp.MustCompile(`[A-Za-z_][A-Za-z0-9_-]*|[^ \n]`)
	anyLabel = regexp.MustCompile(`\A[A-Za-z_][A-Za-z0-9_-]*\z`)
)

// rule is an error with the answer to the question whether it applies.
type rule struct {
	e      api.Errno
	broken bool
}

func first(rules ...rule) api.Errno {
	for _, r := range rules {
		if r.broken {
			return r.e
		}
	}
	return api.OK
}

// count returns how often a part occurs.
func count(parts []string, part string) int {
	n := 0
	for _, p := range parts {
		if p == part {
			n++
		}
	}
	return n
}

func parse(data string, tokens int) parsed {
	if e := first(rule{api.ErrArg, tokens < 0 || tokens > 4096}, rule{api.ErrLimit, len(data) > 1<<20}); e != api.OK {
		return parsed{e: e}
	}
	var parts []string
	for _, place := range anyPart.FindAllStringIndex(data, -1) {
		parts = append(parts, data[place[0]:place[1]])
		if e := lastError(parts, tokens); e != api.OK {
			return parsed{pos: codepoint.Position(data, place[0]), e: e}
		}
	}
	e := first(rule{api.ErrTruncated, count(parts, "(") > count(parts, ")")}, rule{api.ErrCount, count(parts, "*") < tokens})
	if e != api.OK {
		return parsed{pos: codepoint.Position(data, len(data)), e: e}
	}
	return parsed{nodes: constituents(parts)}
}

// lastError returns the error at the last part, if there is none before it.
func lastError(parts []string, tokens int) api.Errno {
	before, part := parts[:len(parts)-1], parts[len(parts)-1]
	labelled := len(before) > 0 && before[len(before)-1] == "("
	begun, ended := count(before, "("), count(before, ")")
	empty := part == ")" && begun > ended && !slices.Contains(before[opening(before):], "*")
	return first(
		rule{api.ErrSyntax, anyLabel.MatchString(part) != labelled},
		rule{api.ErrSyntax, !labelled && !strings.Contains("()*", part)},
		rule{api.ErrSyntax, part == ")" && begun == ended},
		rule{api.ErrLimit, part == "(" && (begun >= 2048 || begun-ended >= 40)},
		rule{api.ErrLimit, labelled && len(part) > 32},
		rule{api.ErrRange, empty},
		rule{api.ErrCount, part == "*" && count(before, "*") >= tokens},
	)
}

// opening returns the index of the last bracket that is open behind the parts.
func opening(parts []string) int {
	i := len(parts) - 1
	for count(parts[i:], "(") <= count(parts[i:], ")") {
		i--
	}
	return i
}

// closing returns the index of the bracket that closes the one with this index.
func closing(parts []string, begin int) int {
	balance := 0
	for i, p := range parts[begin:] {
		balance += count([]string{p}, "(") - count([]string{p}, ")")
		if balance == 0 {
			return begin + i
		}
	}
	return -1
}

// constituents returns the nodes of parts without an error.
func constituents(parts []string) []api.Node {
	var nodes []api.Node
	var ends []int
	for i, p := range parts {
		if p != "(" {
			continue
		}
		end := closing(parts, i)
		n := node(parts[i+1], count(parts[:i], "*"), count(parts[:end], "*"), -1)
		for k, other := range ends {
			if other > i {
				n.Parent = k
			}
		}
		nodes, ends = append(nodes, n), append(ends, end)
	}
	return nodes
}

var name = regexp.MustCompile(`\A[A-Za-z_][A-Za-z0-9_-]{0,31}\z`)

func write(nodes []api.Node, tokens int) (string, api.Errno) {
	if e := first(rule{api.ErrArg, tokens < 0 || tokens > 4096}, rule{api.ErrLimit, len(nodes) > 2048}); e != api.OK {
		return "", e
	}
	for i := range nodes {
		if e := nodeError(nodes, i, tokens); e != api.OK {
			return "", e
		}
	}
	text := ""
	for _, item := range items(nodes, -1, 0, tokens) {
		text += item + "\n"
	}
	return text, api.OK
}

// ancestors returns the indices of the nodes above a node whose parents are valid.
func ancestors(nodes []api.Node, i int) []int {
	var above []int
	for p := nodes[i].Parent; p != -1; p = nodes[p].Parent {
		above = append(above, p)
	}
	return above
}

// nodeError returns the error of a node, if those before it have none.
func nodeError(nodes []api.Node, i, tokens int) api.Errno {
	n := nodes[i]
	parents := []int{-1}
	if i > 0 {
		parents = append(append(parents, i-1), ancestors(nodes, i-1)...)
	}
	e := first(
		rule{api.ErrName, !name.MatchString(n.Label)},
		rule{api.ErrRange, n.Begin >= n.End || n.Begin < 0 || n.End > tokens},
		rule{api.ErrOrder, !slices.Contains(parents, n.Parent)},
	)
	if e != api.OK {
		return e
	}
	parent := node("", 0, tokens, -1)
	if n.Parent >= 0 {
		parent = nodes[n.Parent]
	}
	from := parent.Begin
	for _, other := range nodes[:i] {
		if other.Parent == n.Parent {
			from = other.End
		}
	}
	return first(rule{api.ErrRange, n.Begin < from || n.End > parent.End}, rule{api.ErrLimit, len(ancestors(nodes, i)) >= 40})
}

// items returns the items of a span of tokens in a constituent.
func items(nodes []api.Node, parent, begin, end int) []string {
	var list []string
	for at := begin; at < end; {
		i := slices.IndexFunc(nodes, func(n api.Node) bool { return n.Parent == parent && n.Begin == at })
		if i < 0 {
			list, at = append(list, "*"), at+1
			continue
		}
		n := nodes[i]
		parts := append([]string{"(" + n.Label}, items(nodes, i, n.Begin, n.End)...)
		list, at = append(list, strings.Join(parts, " ")+")"), n.End
	}
	return list
}

// checkParse compares Parse with the reference; what it returns is written and read again.
func checkParse(t *testing.T, data string, tokens int) {
	t.Helper()
	got, want := parsing(data, tokens), parse(data, tokens)
	if !same(got, want) {
		t.Fatalf("Parse(%.200q, %d) = %+v; expected %+v", data, tokens, got, want)
	}
	if got.e != api.OK {
		return
	}
	c := api.Corpus{Attributes: []api.Attribute{{Name: "a"}}, Nodes: got.nodes}
	for range tokens {
		c.Tokens = append(c.Tokens, []string{"x"})
		c.Texts = []api.Text{{Name: "t", Begin: 0, End: tokens}}
	}
	if part, index, e := corpus.Validate(c); e != api.OK {
		t.Fatalf("Parse(%.200q, %d) is not valid: part %d, index %d: %d", data, tokens, part, index, e)
	}
	checkFormat(t, got.nodes, tokens)
}

// checkFormat compares Format with the reference, and reads the text again.
func checkFormat(t *testing.T, nodes []api.Node, tokens int) {
	t.Helper()
	before := slices.Clone(nodes)
	got, e := bracket.Format(nodes, tokens)
	want, f := write(nodes, tokens)
	if got != want || e != f {
		t.Fatalf("Format(%+v, %d) = %q, %d; expected %q, %d", nodes, tokens, got, e, want, f)
	}
	if !slices.Equal(nodes, before) {
		t.Fatalf("Format has changed its argument from %+v to %+v", before, nodes)
	}
	if e != api.OK {
		return
	}
	if back := parsing(got, tokens); !same(back, parsed{nodes: nodes}) {
		t.Fatalf("Parse(%q, %d) = %+v; expected %+v", got, tokens, back, nodes)
	}
}
