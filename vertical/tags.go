package vertical

import (
	"slices"

	"corpora/api"
	"corpora/corpus"
	"corpora/markup"
)

const (
	textTag = "text" // the name of the tags of a text
	nameKey = "id"   // the key with the name of a text
)

// kind is what decides about the meaning of a tag.
type kind struct{ text, closing bool }

// kindOf returns the kind of a tag.
func kindOf(tag markup.Tag) kind {
	return kind{tag.Name == textTag, tag.Close}
}

// tagReaders returns what reads the tags of each kind.
func tagReaders() map[kind]tagReader {
	return map[kind]tagReader{
		{text: true, closing: false}:  (*reader).openText,
		{text: true, closing: true}:   (*reader).closeText,
		{text: false, closing: false}: (*reader).openRegion,
		{text: false, closing: true}:  (*reader).closeRegion,
	}
}

func (r *reader) openText(tag markup.Tag) api.Errno {
	id := slices.IndexFunc(tag.Keys, isNameKey)
	switch {
	case r.inText:
		return api.ErrType
	case len(r.c.Texts) == api.MaxTexts:
		return api.ErrLimit
	case id < 0:
		return api.ErrMissing
	}
	name := tag.Keys[id].Value
	switch {
	case !markup.ValidName(name):
		return api.ErrName
	case corpus.FindText(r.c, name) >= 0:
		return api.ErrDuplicate
	}
	meta := slices.Delete(tag.Keys, id, id+1)
	r.c.Texts = append(r.c.Texts, api.Text{Name: name, Begin: len(r.c.Tokens), Meta: meta})
	r.inText = true
	return api.OK
}

func (r *reader) closeText(markup.Tag) api.Errno {
	if !r.inText {
		return api.ErrType
	}
	text := &r.c.Texts[len(r.c.Texts)-1]
	switch {
	case len(r.open) > 0:
		return api.ErrOrder
	case text.Begin == len(r.c.Tokens):
		return api.ErrRange
	}
	text.End = len(r.c.Tokens)
	r.inText = false
	return api.OK
}

func (r *reader) openRegion(tag markup.Tag) api.Errno {
	switch {
	case !r.inText:
		return api.ErrType
	case len(r.c.Regions) == api.MaxRegions, len(r.open) == api.MaxDepth:
		return api.ErrLimit
	}
	r.open = append(r.open, len(r.c.Regions))
	r.c.Regions = append(r.c.Regions, api.Region{Type: tag.Name, Begin: len(r.c.Tokens), Keys: tag.Keys})
	return api.OK
}

func (r *reader) closeRegion(tag markup.Tag) api.Errno {
	if !r.inText {
		return api.ErrType
	}
	at := r.lastOpen(tag.Name)
	if at < 0 {
		return api.ErrMissing
	}
	region := &r.c.Regions[r.open[at]]
	if region.Begin == len(r.c.Tokens) {
		return api.ErrRange
	}
	region.End = len(r.c.Tokens)
	r.open = slices.Delete(r.open, at, at+1)
	return api.OK
}

// lastOpen returns the place of the last open region of a type, or -1.
func (r *reader) lastOpen(name string) int {
	for at, i := range slices.Backward(r.open) {
		if r.c.Regions[i].Type == name {
			return at
		}
	}
	return -1
}

func isNameKey(p api.Pair) bool { return p.Name == nameKey }
