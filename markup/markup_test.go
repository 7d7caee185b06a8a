package markup_test

import (
	"strings"
	"testing"
	"unicode/utf8"

	"corpora/api"
	"corpora/markup"
)

// P4.1

func TestValidName(t *testing.T) {
	for s, want := range map[string]bool{
		"":                            false,
		"s":                           true,
		"_":                           true,
		"NounPhrase":                  true,
		"a-b_c9":                      true,
		"a-":                          true,
		"__--":                        true,
		"9a":                          false,
		"-a":                          false,
		"a b":                         false,
		" a":                          false,
		"a ":                          false,
		"a\n":                         false,
		"a.b":                         false,
		"é":                           false,
		"aé":                          false,
		"a\xff":                       false,
		"a\x00":                       false,
		strings.Repeat("n", 31):       true,
		strings.Repeat("n", 32):       true,
		"_" + strings.Repeat("9", 31): true,
		strings.Repeat("n", 33):       false,
		strings.Repeat("n", 1<<20):    false,
		strings.Repeat("é", 16):       false,
	} {
		if got := markup.ValidName(s); got != want {
			t.Errorf("ValidName(%q) = %t", s, got)
		}
	}
}

func TestValidNameOfAllPairsOfBytes(t *testing.T) {
	for i := range 1 << 16 {
		for _, s := range []string{string([]byte{byte(i)}), string([]byte{byte(i >> 8), byte(i)}), string([]byte{'a', byte(i >> 8), byte(i)})} {
			if got := markup.ValidName(s); got != validName(s) {
				t.Fatalf("ValidName(%q) = %t", s, got)
			}
		}
	}
}

func TestValidValue(t *testing.T) {
	for s, want := range map[string]api.Errno{
		"":                                  api.OK,
		"the old man":                       api.OK,
		" ":                                 api.OK,
		"<&>\"'|":                           api.OK,
		"é€😀":                               api.OK,
		"\uFFFD":                            api.OK,
		"~\u0080\u009F":                     api.OK, // control characters as well, but not of those that are excluded
		"\x00":                              api.ErrValue,
		"\t":                                api.ErrValue,
		"a\n":                               api.ErrValue,
		"\x1f":                              api.ErrValue,
		"\x7f":                              api.ErrValue,
		"\xff":                              api.ErrEncoding,
		"\x80":                              api.ErrEncoding,
		"é\xe2\x82":                         api.ErrEncoding,
		"\xed\xa0\x80":                      api.ErrEncoding,
		"\uFFFD\xff":                        api.ErrEncoding,
		"\n\xff":                            api.ErrEncoding, // before ErrValue, which stands first in the string
		"\xff\n":                            api.ErrEncoding,
		strings.Repeat("v", 120):            api.OK,
		strings.Repeat("é", 60):             api.OK,
		strings.Repeat("v", 121):            api.ErrLimit,
		strings.Repeat("é", 61):             api.ErrLimit, // bytes count, not code points
		strings.Repeat("\xff", 121):         api.ErrLimit,
		strings.Repeat("\n", 121):           api.ErrLimit,
		strings.Repeat("v", 119) + "\xff":   api.ErrEncoding,
		strings.Repeat("v", 119) + "\x7f":   api.ErrValue,
		strings.Repeat("v", 118) + "\n\xc3": api.ErrEncoding,
	} {
		if got := markup.ValidValue(s); got != want {
			t.Errorf("ValidValue(%q) = %d; expected %d", s, got, want)
		}
	}
}

func TestValidValueOfEveryCodePoint(t *testing.T) {
	for r := rune(0); r <= utf8.MaxRune; r++ {
		want := api.OK
		if r <= 31 || r == 127 {
			want = api.ErrValue
		}
		if got := markup.ValidValue("é" + string(r)); got != want { // a surrogate becomes U+FFFD
			t.Errorf("ValidValue of %#x = %d; expected %d", r, got, want)
		}
	}
}

func TestValidValueOfAllPairsOfBytes(t *testing.T) {
	for i := range 1 << 16 {
		s := string([]byte{byte(i >> 8), byte(i)})
		if got, want := markup.ValidValue(s), validValue(s); got != want {
			t.Fatalf("ValidValue(%q) = %d; expected %d", s, got, want)
		}
	}
}
