package markup

import (
	"slices"
	"strings"

	"corpora/api"
)

// Tag is an opening or a closing tag.
type Tag struct {
	Close bool
	Name  string
	Keys  []api.Pair
}

// ParseTag reads a tag.
func ParseTag(s string) (t Tag, at int, e api.Errno) {
	defer func() {
		if f, ok := recover().(failure); ok {
			at, e = f.at, f.e
		}
	}()
	scan := scanner{text: s}
	return scan.tag(), 0, api.OK
}

// FormatTag writes a tag.
func FormatTag(t Tag) (string, api.Errno) {
	if e := t.check(); e != api.OK {
		return "", e
	}
	var text strings.Builder
	text.WriteString("<")
	if t.Close {
		text.WriteString("/")
	}
	text.WriteString(t.Name)
	for _, key := range sorted(t.Keys) {
		text.WriteString(" " + key.Name + "=\"" + Escape(key.Value) + "\"")
	}
	text.WriteString(">")
	return text.String(), api.OK
}

// check returns the reason why t has no text.
func (t Tag) check() api.Errno {
	switch {
	case !ValidName(t.Name):
		return api.ErrName
	case t.Close && len(t.Keys) > 0, len(t.Keys) > api.MaxPairs:
		return api.ErrCount
	}
	for i, key := range t.Keys {
		if e := checkKey(key, t.Keys[:i]); e != api.OK {
			return e
		}
	}
	return api.OK
}

// checkKey returns the reason why a key cannot follow the earlier ones.
func checkKey(key api.Pair, earlier []api.Pair) api.Errno {
	switch {
	case !ValidName(key.Name):
		return api.ErrName
	case hasName(earlier, key.Name):
		return api.ErrDuplicate
	}
	return ValidValue(key.Value)
}

// hasName reports whether one of the keys has a name.
func hasName(keys []api.Pair, name string) bool {
	return slices.ContainsFunc(keys, func(key api.Pair) bool { return key.Name == name })
}

// sorted returns the keys in the order of their names, in new memory.
func sorted(keys []api.Pair) []api.Pair {
	list := slices.Clone(keys)
	slices.SortFunc(list, func(a, b api.Pair) int { return strings.Compare(a.Name, b.Name) })
	return list
}
