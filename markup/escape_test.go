package markup_test

import (
	"strconv"
	"strings"
	"testing"

	"corpora/api"
	"corpora/markup"
)

// P4.2

func unescaping(s string) unescaped {
	got, at, e := markup.Unescape(s)
	return unescaped{got, at, e}
}

func TestEscape(t *testing.T) {
	for s, want := range map[string]string{
		"":             "",
		"man":          "man",
		"a&b":          "a&amp;b",
		"<\">'":        "&lt;&quot;&gt;'",
		"&&":           "&amp;&amp;",
		"&amp;":        "&amp;amp;",
		"&#65;":        "&amp;#65;",
		"é<\n>\x00":    "é&lt;\n&gt;\x00",
		"\xff&\xc3<":   "\xff&amp;\xc3&lt;",
		"\uFFFD\xe2":   "\uFFFD\xe2",
		"＆＜＞＂":         "＆＜＞＂", // other characters that look alike
		"amp; #1; /=-": "amp; #1; /=-",
	} {
		if got := markup.Escape(s); got != want {
			t.Errorf("Escape(%q) = %q; expected %q", s, got, want)
		}
	}
}

func TestEscapeOfAllPairsOfBytes(t *testing.T) {
	escapes := strings.NewReplacer("&", "&amp;", "<", "&lt;", ">", "&gt;", "\"", "&quot;")
	for i := range 1 << 16 {
		s := string([]byte{byte(i >> 8), byte(i)})
		escaped := markup.Escape(s)
		if want := escapes.Replace(s); escaped != want {
			t.Fatalf("Escape(%q) = %q; expected %q", s, escaped, want)
		}
		if got := unescaping(escaped); got != (unescaped{s, 0, api.OK}) {
			t.Fatalf("Unescape(%q) = %v; expected %q", escaped, got, s)
		}
	}
}

func TestUnescape(t *testing.T) {
	for s, want := range map[string]string{
		"":                        "",
		"man":                     "man",
		"a&lt;&#233;":             "a<é",
		"&amp;&lt;&gt;&quot;":     "&<>\"",
		"&amp;lt;":                "&lt;", // what an escape stands for is not read again
		"&amp;#65;":               "&#65;",
		"&#38;amp;":               "&amp;",
		"<>\"';":                  "<>\"';",
		"\xff&lt;\xc3":            "\xff<\xc3",
		"\n&#10;":                 "\n\n",
		"&#0;":                    "\x00",
		"&#9;":                    "\t",
		"&#127;&#128;":            "\x7f\u0080",
		"&#55295;&#57344;":        "\uD7FF\uE000",
		"&#65533;":                "\uFFFD",
		"&#65535;&#65536;":        "\uFFFF\U00010000",
		"&#1114111;":              "\U0010FFFF",
		"&#1000000;":              "\U000F4240",
		"&lt;;":                   "<;",
		"amp;":                    "amp;",
		strings.Repeat("&#1;", 9): strings.Repeat("\x01", 9),
	} {
		if got := unescaping(s); got != (unescaped{want, 0, api.OK}) {
			t.Errorf("Unescape(%q) = %v; expected %q", s, got, want)
		}
	}
}

func TestUnescapeErrors(t *testing.T) {
	for s, at := range map[string]int{
		"a & b":                                 2,
		"&":                                     0,
		"&;":                                    0,
		"a&lt;b&":                               6,
		"é&x":                                   2, // an offset counts bytes
		"x&lt":                                  1,
		"&LT;":                                  0,
		"&lt ;":                                 0,
		"& lt;":                                 0,
		"&amp":                                  0,
		"&apos;":                                0,
		"&&amp;":                                0,
		"&amp;&":                                5,
		"&a&mp;":                                0,
		"&#;":                                   0,
		"&#65":                                  0,
		"&#65 ;":                                0,
		"&# 65;":                                0,
		"&#6 5;":                                0,
		"&#x41;":                                0,
		"&#-1;":                                 0,
		"&#-0;":                                 0,
		"&#+65;":                                0,
		"&#6_5;":                                0,
		"&#6.5;":                                0,
		"&#00;":                                 0,
		"&#065;":                                0,
		"&#0000065;":                            0,
		"&#00000065;":                           0,
		"&#٣;":                                  0, // a digit, but not from 0 to 9
		"&#55296;":                              0,
		"&#56000;":                              0,
		"&#57343;":                              0,
		"&#1114112;":                            0,
		"&#9999999;":                            0,
		"&#12345678;":                           0,
		"&#4294967361;":                         0, // 2^32 + 65
		"&#18446744073709551681;":               0, // 2^64 + 65
		"&lt;&#1114112;&#55296;":                4,
		"&#" + strings.Repeat("1", 1<<16) + ";": 0,
		"&amp;&#65;\xff&\xff;":                  11,
	} {
		if got := unescaping(s); got != (unescaped{"", at, api.ErrSyntax}) {
			t.Errorf("Unescape(%q) = %v; expected offset %d", s, got, at)
		}
	}
}

func TestUnescapeOfAllNumbers(t *testing.T) {
	step := 1
	for n := 0; n < 20_000_000; n += step {
		s := "&#" + strconv.Itoa(n) + ";"
		want := unescaped{string(rune(n)), 0, api.OK}
		if 0xD800 <= n && n <= 0xDFFF || n > 0x10FFFF {
			want = unescaped{"", 0, api.ErrSyntax}
		}
		if got := unescaping(s); got != want {
			t.Fatalf("Unescape(%q) = %v; expected %v", s, got, want)
		}
		if n > 1_200_000 {
			step = 997
		}
	}
}

func TestUnescapeOfAllSamples(t *testing.T) {
	pieces := []string{
		"&", "#", ";", "amp", "lt", "gt", "quot", "0", "1", "9", "5", "1411", "a", " ", "-", "<", "\"", "é", "\xff", "&amp;", "&#6",
	}
	for _, s := range samples("", 4, pieces) {
		if got, want := unescaping(s), unescape(s); got != want {
			t.Fatalf("Unescape(%q) = %v; expected %v", s, got, want)
		}
		if got := unescaping(markup.Escape(s)); got != (unescaped{s, 0, api.OK}) {
			t.Fatalf("Unescape(Escape(%q)) = %v", s, got)
		}
	}
}

func TestUnescapeOfNumbersOfAllSamples(t *testing.T) {
	pieces := []string{"0", "1", "5", "53", "7", "28", "9", "11", "x", "+", ";", "&#"}
	for _, s := range samples("a&#", 5, pieces) {
		if got, want := unescaping(s), unescape(s); got != want {
			t.Fatalf("Unescape(%q) = %v; expected %v", s, got, want)
		}
	}
}

func FuzzEscape(f *testing.F) {
	f.Add("a&lt;&#233;")
	f.Add("\xff&#1114112;")
	f.Fuzz(func(t *testing.T, s string) {
		if got, want := unescaping(s), unescape(s); got != want {
			t.Errorf("Unescape(%q) = %v; expected %v", s, got, want)
		}
		if got := unescaping(markup.Escape(s)); got != (unescaped{s, 0, api.OK}) {
			t.Errorf("Unescape(Escape(%q)) = %v", s, got)
		}
		if got, want := markup.ValidValue(s), validValue(s); got != want {
			t.Errorf("ValidValue(%q) = %d; expected %d", s, got, want)
		}
	})
}
