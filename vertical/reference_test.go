package vertical_test

import (
	"fmt"
	"slices"
	"strings"
	"testing"

	"corpora/api"
	"corpora/codepoint"
	"corpora/corpus"
	"corpora/feature"
	"corpora/markup"
	"corpora/vertical"
)

// The reference reads each line with all lines before it: what is open follows from
// the numbers of tags there, and where something ends from the tags behind it. It
// writes what belongs to a position by looking at all regions.

// parsed is what Parse returns.
type parsed struct {
	c   api.Corpus
	pos api.Pos
	e   api.Errno
}

func parsing(data string, attrs []api.Attribute) parsed {
	c, pos, e := vertical.Parse(data, attrs)
	return parsed{c, pos, e}
}

func same(a, b parsed) bool {
	return corpus.Equal(a.c, b.c) && a.pos == b.pos && a.e == b.e
}

// line is a line of a file; token lines have a tag without a name.
type line struct {
	text string
	tag  markup.Tag
}

func (l line) opens(isText bool) bool {
	return l.tag.Name != "" && !l.tag.Close && (l.tag.Name == "text") == isText
}

// rule is an error at an offset in a line with the answer to the question whether it applies.
type rule struct {
	e      api.Errno
	at     int
	broken bool
}

func parse(data string, attrs []api.Attribute) parsed {
	names := map[string]bool{}
	for _, a := range attrs {
		if !markup.ValidName(a.Name) {
			return parsed{e: api.ErrArg}
		}
		names[a.Name] = true
	}
	if len(names) != len(attrs) || len(attrs) < 1 || len(attrs) > 8 {
		return parsed{e: api.ErrArg}
	}
	if len(data) > 1048576 {
		return parsed{e: api.ErrLimit}
	}
	var lines []line
	offset := 0
	for _, whole := range strings.SplitAfter(data, "\n") {
		if whole == "" {
			break
		}
		text := strings.TrimSuffix(whole, "\n")
		l, rules := line{text: text}, []rule(nil)
		if text != "" && text[0] == '<' {
			tag, at, e := markup.ParseTag(text)
			l.tag, rules = tag, []rule{{e, at, e != api.OK}}
			if e == api.OK {
				rules = tagRules(lines, tag)
			}
		} else {
			rules = tokenRules(lines, text, attrs)
		}
		for _, r := range rules {
			if r.broken {
				return parsed{pos: codepoint.Position(data, offset+r.at), e: r.e}
			}
		}
		lines = append(lines, l)
		offset += len(whole)
	}
	if inText(lines) {
		return parsed{pos: codepoint.Position(data, len(data)), e: api.ErrTruncated}
	}
	return parsed{c: contents(lines, attrs)}
}

// closing returns the index of the line with the closing tag for the opening tag in
// line i, or -1.
func closing(lines []line, i int) int {
	level := 0
	for k := i; k < len(lines); k++ {
		switch {
		case lines[k].tag.Name != lines[i].tag.Name:
		case lines[k].tag.Close:
			level--
		default:
			level++
		}
		if level == 0 {
			return k
		}
	}
	return -1
}

// openings returns the indices of the lines with an opening tag of a text, or of a region.
func openings(lines []line, ofText bool) []int {
	var list []int
	for i, l := range lines {
		if l.opens(ofText) {
			list = append(list, i)
		}
	}
	return list
}

// stillOpen returns those of openings for which there is no closing tag yet.
func stillOpen(lines []line, ofText bool) []int {
	return slices.DeleteFunc(openings(lines, ofText), func(i int) bool { return closing(lines, i) >= 0 })
}

func inText(lines []line) bool {
	return len(stillOpen(lines, true)) > 0
}

// tokens returns the number of token lines.
func tokens(lines []line) int {
	n := 0
	for _, l := range lines {
		if l.tag.Name == "" {
			n++
		}
	}
	return n
}

// value returns the value of a key, and whether there is one.
func value(keys []api.Pair, name string) (string, bool) {
	for _, k := range keys {
		if k.Name == name {
			return k.Value, true
		}
	}
	return "", false
}

// tagRules returns what can be wrong with a tag behind some lines.
func tagRules(lines []line, tag markup.Tag) []rule {
	isText := tag.Name == "text"
	name, named := value(tag.Keys, "id")
	known, missing := false, true
	for _, i := range openings(lines, true) {
		earlier, _ := value(lines[i].tag.Keys, "id")
		known = known || earlier == name
	}
	behind := 0 // the number of tokens behind the opening tag that would be closed
	for _, i := range stillOpen(lines, isText) {
		if lines[i].tag.Name == tag.Name {
			missing, behind = false, tokens(lines[i:])
		}
	}
	regions := stillOpen(lines, false)
	switch {
	case isText && !tag.Close:
		return []rule{
			{api.ErrType, 0, inText(lines)},
			{api.ErrLimit, 0, len(openings(lines, true)) >= 64},
			{api.ErrMissing, 0, !named},
			{api.ErrName, 0, !markup.ValidName(name)},
			{api.ErrDuplicate, 0, known},
		}
	case isText:
		return []rule{{api.ErrType, 0, !inText(lines)}, {api.ErrOrder, 0, len(regions) > 0}, {api.ErrRange, 0, behind == 0}}
	case !tag.Close:
		full := len(openings(lines, false)) >= 1024 || len(regions) >= 40
		return []rule{{api.ErrType, 0, !inText(lines)}, {api.ErrLimit, 0, full}}
	}
	return []rule{{api.ErrType, 0, !inText(lines)}, {api.ErrMissing, 0, missing}, {api.ErrRange, 0, behind == 0}}
}

// tokenRules returns what can be wrong with a token line behind some lines.
func tokenRules(lines []line, text string, attrs []api.Attribute) []rule {
	rules := []rule{{api.ErrType, 0, !inText(lines)}, {api.ErrLimit, 0, tokens(lines) >= 4096}}
	raws := strings.Split(text, "\t")
	for i, raw := range raws {
		begin := len(strings.Join(append(raws[:i:i], ""), "\t"))
		rules = append(rules, rule{api.ErrCount, begin, i >= len(attrs)})
		v, at, e := markup.Unescape(raw)
		rules = append(rules, rule{e, begin + at, e != api.OK})
		if e = markup.ValidValue(v); i < len(attrs) && attrs[i].Set {
			_, e = feature.Parse(v)
		}
		rules = append(rules, rule{e, begin, e != api.OK})
	}
	return append(rules, rule{api.ErrCount, len(text), len(raws) < len(attrs)})
}

// contents returns the corpus of a file without errors.
func contents(lines []line, attrs []api.Attribute) api.Corpus {
	c := api.Corpus{Attributes: attrs}
	for _, l := range lines {
		if l.tag.Name == "" {
			var values []string
			for _, raw := range strings.Split(l.text, "\t") {
				v, _, _ := markup.Unescape(raw)
				values = append(values, v)
			}
			c.Tokens = append(c.Tokens, values)
		}
	}
	for _, i := range openings(lines, true) {
		t := api.Text{Begin: tokens(lines[:i]), End: tokens(lines[:closing(lines, i)])}
		for _, k := range lines[i].tag.Keys {
			if k.Name == "id" {
				t.Name = k.Value
			} else {
				t.Meta = append(t.Meta, k)
			}
		}
		c.Texts = append(c.Texts, t)
	}
	for _, i := range openings(lines, false) {
		r := api.Region{Type: lines[i].tag.Name, Begin: tokens(lines[:i]), End: tokens(lines[:closing(lines, i)]), Keys: lines[i].tag.Keys}
		c.Regions = append(c.Regions, r)
	}
	c.Regions = corpus.SortRegions(c.Regions)
	return c
}

// write is Format for a valid corpus.
func write(c api.Corpus) (string, api.Errno) {
	for _, t := range c.Texts {
		if _, named := value(t.Meta, "id"); named {
			return "", api.ErrName
		}
		if len(t.Meta) >= 8 {
			return "", api.ErrLimit
		}
	}
	for _, r := range c.Regions {
		if r.Type == "text" {
			return "", api.ErrName
		}
	}
	var file strings.Builder
	for _, t := range c.Texts {
		file.WriteString(opening("text", append([]api.Pair{{Name: "id", Value: t.Name}}, t.Meta...)))
		for i := t.Begin; i <= t.End; i++ {
			before, behind := "", ""
			for _, r := range c.Regions {
				if r.End == i && r.Begin >= t.Begin {
					before = "</" + r.Type + ">\n" + before
				}
				if r.Begin == i && i < t.End {
					behind += opening(r.Type, r.Keys)
				}
			}
			file.WriteString(before + behind)
			if i < t.End {
				file.WriteString(markup.Escape(strings.Join(c.Tokens[i], "\t")) + "\n")
			}
		}
		file.WriteString("</text>\n")
	}
	if file.Len() > 1048576 {
		return "", api.ErrLimit
	}
	return file.String(), api.OK
}

// opening returns a line with an opening tag.
func opening(name string, keys []api.Pair) string {
	keys = slices.Clone(keys)
	slices.SortFunc(keys, func(a, b api.Pair) int { return strings.Compare(a.Name, b.Name) })
	tag := "<" + name
	for _, k := range keys {
		tag += fmt.Sprintf(` %s="%s"`, k.Name, markup.Escape(k.Value))
	}
	return tag + ">\n"
}

// checkParse compares Parse with the reference, and writes and reads what it returns.
func checkParse(t *testing.T, data string, attrs []api.Attribute) {
	t.Helper()
	got, want := parsing(data, attrs), parse(data, attrs)
	if !same(got, want) {
		t.Fatalf("Parse(%q, %v) = %+v; expected %+v", data, attrs, got, want)
	}
	if got.e == api.OK {
		checkFormat(t, got.c)
	}
}

// checkFormat compares Format of a valid corpus with the reference, and reads the file.
func checkFormat(t *testing.T, c api.Corpus) {
	t.Helper()
	if part, index, e := corpus.Validate(c); e != api.OK {
		t.Fatalf("part %d, index %d: the corpus %+v is not valid: %d", part, index, c, e)
	}
	before := fmt.Sprint(c)
	got, e := vertical.Format(c)
	want, f := write(c)
	if got != want || e != f {
		t.Fatalf("Format(%+v) = %q, %d; expected %q, %d", c, got, e, want, f)
	}
	if fmt.Sprint(c) != before {
		t.Fatalf("Format has changed its argument from %s to %v", before, c)
	}
	if e != api.OK {
		return
	}
	c.Nodes, c.Heads, c.Relations = nil, nil, nil
	if back := parsing(got, c.Attributes); !same(back, parsed{c: c}) {
		t.Fatalf("Parse(%q, %v) = %+v; expected %+v", got, c.Attributes, back, c)
	}
}
