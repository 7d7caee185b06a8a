package vertical

import (
	"slices"
	"strings"

	"corpora/api"
	"corpora/markup"
)

// writable returns the reason why a corpus has no file of whatever length.
func writable(c api.Corpus) api.Errno {
	// What writes a file relies on a valid corpus.
	if !valid(c) {
		return api.ErrArg
	}
	for _, t := range c.Texts {
		switch {
		case slices.ContainsFunc(t.Meta, isNameKey):
			return api.ErrName
		case len(t.Meta) == api.MaxPairs:
			return api.ErrLimit
		}
	}
	for _, r := range c.Regions {
		if r.Type == textTag {
			return api.ErrName
		}
	}
	return api.OK
}

// writer writes the texts of a corpus one after the other.
type writer struct {
	c    api.Corpus
	file strings.Builder
	next int   // the index of the first region that has not been opened
	open []int // the indices of the open regions, in ascending order
}

// text writes the lines of a text.
func (w *writer) text(t api.Text) {
	name := api.Pair{Name: nameKey, Value: t.Name}
	w.tag(markup.Tag{Name: textTag, Keys: slices.Concat(t.Meta, []api.Pair{name})})
	for i := t.Begin; i < t.End; i++ {
		w.closeRegions(i)
		w.openRegions(i)
		w.token(w.c.Tokens[i])
	}
	w.closeRegions(t.End)
	w.tag(markup.Tag{Name: textTag, Close: true})
}

// closeRegions writes the closing tags of the regions that end at a position.
func (w *writer) closeRegions(at int) {
	ends := func(i int) bool { return w.c.Regions[i].End == at }
	for _, i := range slices.Backward(w.open) {
		if ends(i) {
			w.tag(markup.Tag{Name: w.c.Regions[i].Type, Close: true})
		}
	}
	w.open = slices.DeleteFunc(w.open, ends)
}

// openRegions writes the opening tags of the regions that begin at a position.
func (w *writer) openRegions(at int) {
	// The regions are in ascending order of their begins.
	for w.next < len(w.c.Regions) && w.c.Regions[w.next].Begin == at {
		r := w.c.Regions[w.next]
		w.tag(markup.Tag{Name: r.Type, Keys: r.Keys})
		w.open = append(w.open, w.next)
		w.next++
	}
}

// token writes the values of a token.
func (w *writer) token(values []string) {
	raw := make([]string, len(values))
	for a, value := range values {
		raw[a] = markup.Escape(value)
	}
	w.line(strings.Join(raw, "\t"))
}

// tag writes a tag. All tags of a valid corpus can be written.
func (w *writer) tag(t markup.Tag) {
	text, _ := markup.FormatTag(t)
	w.line(text)
}

// line writes a line.
func (w *writer) line(s string) {
	w.file.WriteString(s)
	w.file.WriteString("\n")
}
