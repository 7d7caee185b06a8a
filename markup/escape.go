package markup

import (
	"strconv"
	"strings"
	"unicode/utf8"

	"corpora/api"
)

// named lists the escapes that Escape writes.
var named = [...]struct{ plain, escape string }{
	{"&", "&amp;"},
	{"<", "&lt;"},
	{">", "&gt;"},
	{"\"", "&quot;"},
}

// Escape replaces special characters by escapes.
func Escape(s string) string {
	var escaped strings.Builder
	for i := range len(s) {
		escaped.WriteString(escape(s[i : i+1]))
	}
	return escaped.String()
}

// escape returns the escape of a byte, or the byte itself if it needs none.
func escape(b string) string {
	for _, n := range named {
		if n.plain == b {
			return n.escape
		}
	}
	return b
}

// Unescape replaces escapes by what they stand for.
func Unescape(s string) (string, int, api.Errno) {
	var plain strings.Builder
	at := 0
	for {
		before, _, found := strings.Cut(s[at:], "&")
		plain.WriteString(before)
		at += len(before)
		if !found {
			return plain.String(), 0, api.OK
		}
		text, size := leading(s[at:])
		if size == 0 {
			return "", at, api.ErrSyntax
		}
		plain.WriteString(text)
		at += size
	}
}

// leading returns what the escape at the begin of s stands for, and its length,
// which is 0 if no escape stands there.
func leading(s string) (plain string, size int) {
	for _, n := range named {
		if strings.HasPrefix(s, n.escape) {
			return n.plain, len(n.escape)
		}
	}
	body, _, closed := strings.Cut(s, ";")
	digits, numbered := strings.CutPrefix(body, "&#")
	if !closed || !numbered {
		return "", 0
	}
	point, ok := codePoint(digits)
	if !ok {
		return "", 0
	}
	return string(point), len(body) + len(";")
}

// codePoint returns the code point whose number is written with these digits.
func codePoint(digits string) (rune, bool) {
	n, err := strconv.ParseInt(digits, 10, 32)
	// A number has one spelling; what is not written back as it was has a plus or leading zeros.
	if err != nil || strconv.FormatInt(n, 10) != digits || !utf8.ValidRune(rune(n)) {
		return 0, false
	}
	return rune(n), true
}
