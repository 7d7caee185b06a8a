package markup_test

import (
	"cmp"
	"regexp"
	"slices"
	"sort"
	"strconv"
	"strings"
	"testing"
	"unicode/utf8"

	"corpora/api"
	"corpora/markup"
)

// The reference finds everything with regular expressions.

var (
	anyName   = grammar(`^NAME$`)
	anyEscape = regexp.MustCompile(`^&(?:amp|lt|gt|quot|#(0|[1-9][0-9]{0,6}));`)
	anyTag    = grammar(`^<(?:/NAME|NAME(?: +NAME="[^"<>]*")*)>$`)
	tagBegin  = grammar(`^(?:|<|</|</NAME>?|<NAME(?: +NAME="[^"<>]*")*(?:|>| +| +NAME| +NAME=| +NAME="[^"<>]*))$`)
	tagName   = grammar(`^</?(NAME)`)
	tagKey    = grammar(` +(NAME)(?:="([^"<>]*)(")?)?`)
)

func grammar(s string) *regexp.Regexp {
	return regexp.MustCompile(strings.ReplaceAll(s, "NAME", `[A-Za-z_][A-Za-z0-9_-]*`))
}

func validName(s string) bool {
	return anyName.MatchString(s) && len(s) <= 32
}

func validValue(s string) api.Errno {
	if len(s) > 120 {
		return api.ErrLimit
	}
	if !utf8.ValidString(s) {
		return api.ErrEncoding
	}
	for _, r := range []rune(s) {
		if 0 <= r && r <= 31 || r == 127 {
			return api.ErrValue
		}
	}
	return api.OK
}

// unescaped is what Unescape returns.
type unescaped struct {
	s  string
	at int
	e  api.Errno
}

func unescape(s string) unescaped {
	var plain []byte
	for at := 0; at < len(s); {
		if s[at] != '&' {
			plain = append(plain, s[at])
			at++
			continue
		}
		found := anyEscape.FindStringSubmatch(s[at:])
		if found == nil {
			return unescaped{"", at, api.ErrSyntax}
		}
		switch found[0] {
		case "&amp;":
			plain = append(plain, '&')
		case "&lt;":
			plain = append(plain, '<')
		case "&gt;":
			plain = append(plain, '>')
		case "&quot;":
			plain = append(plain, '"')
		default:
			n, _ := strconv.Atoi(found[1])
			if 55296 <= n && n <= 57343 || n > 1114111 {
				return unescaped{"", at, api.ErrSyntax}
			}
			plain = utf8.AppendRune(plain, rune(n))
		}
		at += len(found[0])
	}
	return unescaped{string(plain), 0, api.OK}
}

// parsed is what ParseTag returns.
type parsed struct {
	t  markup.Tag
	at int
	e  api.Errno
}

func same(a, b parsed) bool {
	return a.at == b.at && a.e == b.e && a.t.Close == b.t.Close && a.t.Name == b.t.Name && slices.Equal(a.t.Keys, b.t.Keys)
}

func parsing(s string) parsed {
	t, at, e := markup.ParseTag(s)
	return parsed{t, at, e}
}

// parse examines the names and the values of the longest begin of s that is the begin of a tag.
func parse(s string) parsed {
	begin := s
	if !tagBegin.MatchString(s) {
		begin = s[:sort.Search(len(s), func(n int) bool { return !tagBegin.MatchString(s[:n+1]) })]
	}
	t := markup.Tag{Close: strings.HasPrefix(s, "</")}
	name := tagName.FindStringSubmatchIndex(begin)
	if name == nil {
		return parsed{at: len(begin), e: api.ErrSyntax}
	}
	t.Name = begin[name[2]:name[3]]
	if len(t.Name) > 32 {
		return parsed{at: name[2], e: api.ErrLimit}
	}
	after := name[3]
	for _, key := range tagKey.FindAllStringSubmatchIndex(begin[after:], -1) {
		pair, wrong := parseKey(begin[after:], key, t.Keys)
		if wrong.e != api.OK {
			wrong.at += after
			return wrong
		}
		t.Keys = append(t.Keys, pair)
	}
	if !anyTag.MatchString(s) {
		return parsed{at: len(begin), e: api.ErrSyntax}
	}
	slices.SortFunc(t.Keys, func(a, b api.Pair) int { return cmp.Compare(a.Name, b.Name) })
	return parsed{t: t}
}

// parseKey examines a key of which tagKey tells where its parts are.
func parseKey(s string, key []int, earlier []api.Pair) (api.Pair, parsed) {
	begin, end := key[2], key[3]
	pair := api.Pair{Name: s[begin:end]}
	if len(pair.Name) > 32 {
		return pair, parsed{at: begin, e: api.ErrLimit}
	}
	for _, other := range earlier {
		if other.Name == pair.Name {
			return pair, parsed{at: begin, e: api.ErrDuplicate}
		}
	}
	if len(earlier) == 8 {
		return pair, parsed{at: begin, e: api.ErrLimit}
	}
	if key[6] < 0 { // no quote at the end
		return pair, parsed{}
	}
	raw := unescape(s[key[4]:key[5]])
	pair.Value = raw.s
	if raw.e != api.OK {
		return pair, parsed{at: key[4] + raw.at, e: raw.e}
	}
	return pair, parsed{at: key[4], e: validValue(raw.s)}
}

// format returns what FormatTag returns.
func format(t markup.Tag) (string, api.Errno) {
	if !validName(t.Name) {
		return "", api.ErrName
	}
	if t.Close && len(t.Keys) != 0 || len(t.Keys) > 8 {
		return "", api.ErrCount
	}
	values := map[string]string{}
	for _, key := range t.Keys {
		if !validName(key.Name) {
			return "", api.ErrName
		}
		if _, ok := values[key.Name]; ok {
			return "", api.ErrDuplicate
		}
		if e := validValue(key.Value); e != api.OK {
			return "", e
		}
		values[key.Name] = strings.NewReplacer("&", "&amp;", "<", "&lt;", ">", "&gt;", "\"", "&quot;").Replace(key.Value)
	}
	if t.Close {
		return "</" + t.Name + ">", api.OK
	}
	s := "<" + t.Name
	var names []string
	for name := range values {
		names = append(names, name)
	}
	slices.Sort(names)
	for _, name := range names {
		s += " " + name + "=\"" + values[name] + "\""
	}
	return s + ">", api.OK
}

// pairs makes keys of names and values by turns.
func pairs(l ...string) []api.Pair {
	var keys []api.Pair
	for i := 0; i+1 < len(l); i += 2 {
		keys = append(keys, api.Pair{Name: l[i], Value: l[i+1]})
	}
	return keys
}

// samples returns all strings of at most n of the pieces, behind a begin.
func samples(begin string, n int, pieces []string) []string {
	all, last := []string{begin}, []string{begin}
	for range n {
		var next []string
		for _, s := range last {
			for _, piece := range pieces {
				next = append(next, s+piece)
			}
		}
		all, last = append(all, next...), next
	}
	return all
}

// random returns a function that returns the numbers of a fixed sequence without an obvious order.
func random(seed uint64) func(below int) int {
	state := seed
	return func(below int) int {
		state = state*6364136223846793005 + 1442695040888963407
		return int(state >> 33 % uint64(below))
	}
}

func compareTag(t *testing.T, s string) {
	t.Helper()
	if got, want := parsing(s), parse(s); !same(got, want) {
		t.Fatalf("ParseTag(%q) = %+v; expected %+v", s, got, want)
	}
}
