package depend_test

import (
	"math"
	"slices"
	"strings"
	"testing"

	"corpora/api"
	"corpora/depend"
)

// P9.4

func TestParse(t *testing.T) {
	for _, c := range []struct {
		data      string
		heads     []int
		relations []string
	}{
		{"", nil, nil}, {"0\t", []int{-1}, []string{""}}, {"0\t\n", []int{-1}, []string{""}}, {"0\troot", []int{-1}, []string{"root"}},
		{"2\tdet\n0\troot\n", []int{1, -1}, []string{"det", "root"}}, {"2\tdet\n0\troot", []int{1, -1}, []string{"det", "root"}},
		{"0\t\n1\t", []int{-1, 0}, []string{"", ""}}, {"0\tA\n0\tz\n0\t_", []int{-1, -1, -1}, []string{"A", "z", "_"}}, {"3\ta-9\n1\tb_\n0\t\n", []int{2, 0, -1}, []string{"a-9", "b_", ""}},
		{strings.Repeat("0\t\n", 9) + "1\tx\n10\ty\n", []int{-1, -1, -1, -1, -1, -1, -1, -1, -1, 0, 9}, []string{"", "", "", "", "", "", "", "", "", "x", "y"}},
		{"0\t" + strings.Repeat("r", 32), []int{-1}, []string{strings.Repeat("r", 32)}},
	} {
		want := parsed{heads: c.heads, relations: c.relations}
		if got := parsing(c.data, len(c.heads)); !same(got, want) {
			t.Errorf("Parse(%q, %d) = %+v; expected %+v", c.data, len(c.heads), got, want)
		}
		for tokens := range 4 {
			checkParse(t, c.data, tokens)
		}
	}
}

// refused is a text with its error.
type refused struct {
	data         string
	tokens       int
	line, column int
	e            api.Errno
}

func checkRefused(t *testing.T, list ...refused) {
	t.Helper()
	for _, r := range list {
		want := parsed{pos: api.Pos{Line: r.line, Column: r.column}, e: r.e}
		if got := parsing(r.data, r.tokens); !same(got, want) {
			t.Errorf("Parse(%.100q, %d) = %+v; expected %+v", r.data, r.tokens, got, want)
		}
		if got := parse(r.data, r.tokens); !same(got, want) {
			t.Errorf("the reference of Parse(%.100q, %d) = %+v; expected %+v", r.data, r.tokens, got, want)
		}
	}
}

func TestParseArguments(t *testing.T) {
	long := strings.Repeat("\n", api.MaxFile+1)
	for _, tokens := range []int{-1, 4097, math.MinInt, math.MaxInt} {
		checkRefused(t, refused{"", tokens, 0, 0, api.ErrArg}, refused{"x", tokens, 0, 0, api.ErrArg}, refused{long, tokens, 0, 0, api.ErrArg})
	}
	checkRefused(t,
		refused{long, 0, 0, 0, api.ErrLimit}, refused{long, 1, 0, 0, api.ErrLimit}, refused{"0\t" + long, 4096, 0, 0, api.ErrLimit},
		refused{long[1:], 1, 1, 1, api.ErrSyntax}, refused{long[1:], 0, 1, 1, api.ErrCount}, refused{"0\t" + long[3:], 1, 2, 1, api.ErrCount},
		refused{"0\t" + strings.Repeat("r", api.MaxFile-2), 1, 1, 3, api.ErrName}, refused{strings.Repeat("7", api.MaxFile-1) + "\t", 1, 1, 1, api.ErrRange}, refused{strings.Repeat("7", api.MaxFile), 1, 1, api.MaxFile + 1, api.ErrSyntax},
	)
}

func TestParseCount(t *testing.T) {
	checkRefused(t,
		refused{"0\ta", 0, 1, 1, api.ErrCount}, refused{"\n", 0, 1, 1, api.ErrCount}, refused{"x", 0, 1, 1, api.ErrCount}, refused{"\n\n", 0, 1, 1, api.ErrCount},
		refused{"0\ta\n\n", 1, 2, 1, api.ErrCount}, refused{"0\ta\n0\tb", 1, 2, 1, api.ErrCount}, refused{"0\ta\nx", 1, 2, 1, api.ErrCount}, refused{"1\ta\n00", 1, 2, 1, api.ErrCount},
		refused{"", 1, 1, 1, api.ErrCount}, refused{"", 4096, 1, 1, api.ErrCount}, refused{"0\ta", 2, 1, 4, api.ErrCount}, refused{"0\ta\n", 2, 2, 1, api.ErrCount}, refused{"0\t\n0\t\n0\trel", 4, 3, 6, api.ErrCount},
		// A cycle counts only if the number of lines is right.
		refused{"1\ta\n", 2, 2, 1, api.ErrCount}, refused{"2\ta\n1\tb", 3, 2, 4, api.ErrCount}, refused{"1\ta\n1\tb", 1, 2, 1, api.ErrCount},
	)
}

func TestParseSyntax(t *testing.T) {
	checkRefused(t,
		refused{"\n", 1, 1, 1, api.ErrSyntax}, refused{"0\t\n\n0\t", 3, 2, 1, api.ErrSyntax}, refused{"x", 1, 1, 1, api.ErrSyntax}, refused{"-1\tx", 1, 1, 1, api.ErrSyntax}, refused{"+1\tx", 1, 1, 1, api.ErrSyntax}, refused{" 0\tx", 1, 1, 1, api.ErrSyntax}, refused{"\t0", 1, 1, 1, api.ErrSyntax}, refused{"\tx", 1, 1, 1, api.ErrSyntax},
		refused{"/\t", 1, 1, 1, api.ErrSyntax}, refused{":\t", 1, 1, 1, api.ErrSyntax}, refused{"\u0660\tx", 1, 1, 1, api.ErrSyntax}, refused{"\uFF11\tx", 1, 1, 1, api.ErrSyntax}, refused{"\xff", 1, 1, 1, api.ErrSyntax}, refused{"\x00", 1, 1, 1, api.ErrSyntax},
		refused{"00\tx", 1, 1, 2, api.ErrSyntax}, refused{"01\tx", 1, 1, 2, api.ErrSyntax}, refused{"00", 1, 1, 2, api.ErrSyntax}, refused{"000x", 1, 1, 2, api.ErrSyntax}, refused{"0123456789\t9", 1, 1, 2, api.ErrSyntax}, refused{"0\t\n09\t\n", 2, 2, 2, api.ErrSyntax}, refused{"09\t\n", 1, 1, 2, api.ErrSyntax},
		refused{"0", 1, 1, 2, api.ErrSyntax}, refused{"0\n", 1, 1, 2, api.ErrSyntax}, refused{"1", 1, 1, 2, api.ErrSyntax}, refused{"12\n", 1, 1, 3, api.ErrSyntax}, refused{"0 x", 1, 1, 2, api.ErrSyntax}, refused{"0x\t", 1, 1, 2, api.ErrSyntax}, refused{"99x", 1, 1, 3, api.ErrSyntax}, refused{"0\\tx", 1, 1, 2, api.ErrSyntax},
		refused{"1_0\tx", 1, 1, 2, api.ErrSyntax}, refused{"1.0\tx", 1, 1, 2, api.ErrSyntax}, refused{"1e0\tx", 1, 1, 2, api.ErrSyntax}, refused{"10é\tx", 1, 1, 3, api.ErrSyntax}, refused{"1\u0660\tx", 1, 1, 2, api.ErrSyntax}, refused{"0\r\n", 1, 1, 2, api.ErrSyntax}, refused{"1\xff\n", 1, 1, 2, api.ErrSyntax},
		refused{"0\t\n0\t\n10", 3, 3, 3, api.ErrSyntax}, refused{"1\tx\n0", 2, 2, 2, api.ErrSyntax}, refused{"1\tx\nx", 2, 2, 1, api.ErrSyntax},
	)
}

func TestParseRangeAndName(t *testing.T) {
	long := strings.Repeat("r", 33)
	checkRefused(t,
		refused{"2\tx", 1, 1, 1, api.ErrRange}, refused{"2\t9", 1, 1, 1, api.ErrRange}, refused{"0\ta\n3\tb", 2, 2, 1, api.ErrRange}, refused{"10\tx", 1, 1, 1, api.ErrRange}, refused{"4097\tx", 4096, 1, 1, api.ErrRange}, refused{"5\ta\n2\t", 2, 1, 1, api.ErrRange}, refused{"5\ta", 4, 1, 1, api.ErrRange},
		refused{"2147483648\tx", 1, 1, 1, api.ErrRange}, refused{"4294967297\tx", 1, 1, 1, api.ErrRange}, refused{"9223372036854775807\tx", 1, 1, 1, api.ErrRange}, refused{"9223372036854775808\tx", 1, 1, 1, api.ErrRange}, refused{"18446744073709551615\tx", 1, 1, 1, api.ErrRange}, refused{"18446744073709551616\tx", 1, 1, 1, api.ErrRange}, refused{"18446744073709551617\t", 1, 1, 1, api.ErrRange},
		refused{"9223372036854775808\t9", 1, 1, 1, api.ErrRange}, refused{"18446744073709551617\t-\n0", 2, 1, 1, api.ErrRange}, refused{"0\t\n18446744073709551616\t", 3, 2, 1, api.ErrRange}, refused{"0\t\n18446744073709551618\tx\nx", 3, 2, 1, api.ErrRange},
		refused{"0\t9", 1, 1, 3, api.ErrName}, refused{"0\t-", 1, 1, 3, api.ErrName}, refused{"0\ta b", 1, 1, 3, api.ErrName}, refused{"0\t ", 1, 1, 3, api.ErrName}, refused{"0\ta ", 1, 1, 3, api.ErrName}, refused{"0\t\t", 1, 1, 3, api.ErrName}, refused{"0\t\ta", 1, 1, 3, api.ErrName}, refused{"0\ta\tb", 1, 1, 3, api.ErrName}, refused{"0\ta\r\n", 1, 1, 3, api.ErrName}, refused{"0\t\r\n", 1, 1, 3, api.ErrName},
		refused{"0\té", 1, 1, 3, api.ErrName}, refused{"0\taé", 1, 1, 3, api.ErrName}, refused{"0\t\xff", 1, 1, 3, api.ErrName}, refused{"0\ta:b", 1, 1, 3, api.ErrName}, refused{"0\t" + long, 1, 1, 3, api.ErrName}, refused{"0\t" + long[1:] + "\n1\t" + long, 2, 2, 3, api.ErrName}, refused{strings.Repeat("0\t\n", 11) + "12\t.", 12, 12, 4, api.ErrName},
	)
}

func TestParseCycle(t *testing.T) {
	checkRefused(t,
		refused{"1\tx", 1, 1, 1, api.ErrCycle}, refused{"0\ta\n2\tb\n", 2, 2, 1, api.ErrCycle}, refused{"2\ta\n1\tb", 2, 1, 1, api.ErrCycle}, refused{"0\ta\n3\tb\n2\tc\n", 3, 2, 1, api.ErrCycle}, refused{"2\tlong\n3\tb\n4\tc\n3\td", 4, 3, 1, api.ErrCycle},
		refused{"5\t\n3\t\n2\t\n5\t\n4\t", 5, 2, 1, api.ErrCycle}, refused{strings.Repeat("4096\trelation\n", 4096), 4096, 4096, 1, api.ErrCycle},
	)
}

func TestParseLimits(t *testing.T) {
	name := strings.Repeat("r", 32)
	for _, data := range []string{strings.Repeat("0\t\n", 4096), strings.Repeat("4096\t"+name+"\n", 4095) + "0\t" + name, "0\t\n" + strings.Repeat("1\ta\n", 4095)} {
		if got := parsing(data, 4096); got.e != api.OK || len(got.heads) != 4096 || len(got.relations) != 4096 {
			t.Errorf("Parse(%.40q.., 4096) = %d heads, %v, %d", data, len(got.heads), got.pos, got.e)
		}
		checkParse(t, data, 4096)
		checkParse(t, data, 4095)
	}
	checkRefused(t,
		refused{strings.Repeat("0\t\n", 4097), 4096, 4097, 1, api.ErrCount}, refused{strings.Repeat("0\t\n", 4096) + "\n", 4096, 4097, 1, api.ErrCount}, refused{strings.Repeat("0\t\n", 4095), 4096, 4096, 1, api.ErrCount},
		refused{strings.Repeat("0\t\n", 4095) + "4097\t", 4096, 4096, 1, api.ErrRange}, refused{strings.Repeat("0\t\n", 4095) + "4096\t", 4096, 4096, 1, api.ErrCycle},
	)
}

// The first line with an error decides, whatever follows it.
func TestParseReturnsTheFirstError(t *testing.T) {
	bad := []refused{{"", 9, 1, 1, api.ErrSyntax}, {"00", 9, 1, 2, api.ErrSyntax}, {"12", 9, 1, 3, api.ErrSyntax}, {"10\t9", 9, 1, 1, api.ErrRange}, {"9\t9", 9, 1, 3, api.ErrName}}
	for _, r := range bad {
		for _, other := range bad {
			checkRefused(t,
				refused{r.data + "\n" + other.data + "\n", r.tokens, r.line, r.column, r.e},
				refused{"0\ta\n2\tb\n" + r.data + "\n" + other.data, r.tokens, 3, r.column, r.e},
			)
		}
	}
}

func TestParseOfAllTexts(t *testing.T) {
	for _, data := range samples(5, "0", "1", "2", "\t", "\n", "a", "-") {
		for tokens := range 4 {
			checkParse(t, data, tokens)
		}
	}
	for _, data := range samples(5, "0\t\n", "1\ta\n", "2\t_-9\n", "3\tb\n", "4\t", "\n") {
		lines := strings.Count(data, "\n")
		for tokens := max(lines-1, 0); tokens <= lines+1; tokens++ {
			checkParse(t, data, tokens)
		}
	}
}

func TestParseOfAllBytes(t *testing.T) {
	for b := range 256 {
		for _, begin := range []string{"", "0", "1", "10", "0\t", "1\ta", "0\t\n", "0\ta\n2"} {
			for _, end := range []string{"", "0", "\t", "a", "\n", "\ta\n", "a\n0\t", "\té"} {
				for tokens := range 4 {
					checkParse(t, begin+string([]byte{byte(b)})+end, tokens)
				}
			}
		}
	}
}

func TestParseOfSpoiledTexts(t *testing.T) {
	next := random(94)
	errors := map[api.Errno]int{}
	for range 20000 {
		heads := generate(next, 1+next(14))
		text, _ := depend.Format(heads, generateRelations(next, len(heads)))
		data := []byte(text)
		for range next(3) {
			data[strings.LastIndexByte(text[:next(len(text))], '\n')+1] = byte('1' + next(9))
		}
		for range next(3) {
			at := next(len(data) + 1)
			size := min(next(3), len(data)-at)
			data = slices.Replace(data, at, at+size, []byte(pick(next, "", "0", "1", "12", "\t", "\n", "x", "-", "é", "0\t\n", "1\ta\n"))...)
		}
		tokens := len(heads) + pick(next, 0, 0, 0, -1, 1)
		checkParse(t, string(data), tokens)
		errors[parsing(string(data), tokens).e]++
	}
	for _, e := range []api.Errno{api.OK, api.ErrCount, api.ErrSyntax, api.ErrRange, api.ErrName, api.ErrCycle} {
		if errors[e] < 200 {
			t.Errorf("the error %d was met only %d times", e, errors[e])
		}
	}
}

func TestParseReturnsNewMemory(t *testing.T) {
	a := parsing("2\tdet\n0\troot\n", 2)
	b := parsing("2\tdet\n0\troot\n", 2)
	a.heads[0], a.relations[1] = 9, "changed"
	if want := (parsed{heads: []int{1, -1}, relations: []string{"det", "root"}}); !same(b, want) {
		t.Errorf("results share memory: %+v", b)
	}
}

func FuzzDepend(f *testing.F) {
	f.Add("2\tdet\n0\troot\n", 2, []byte{2, 3, 0, 2})
	f.Add("00\tx\né\n", 3, []byte{5, 4, 4, 3, 2, 99})
	f.Fuzz(func(t *testing.T, data string, tokens int, raw []byte) {
		checkParse(t, data, tokens)
		checkParse(t, data, strings.Count(data, "\n"))
		raw = raw[:min(len(raw), 16)]
		heads := made(len(raw), func(i int) int { return int(raw[i])%(len(raw)+3) - 2 })
		checkHeads(t, heads)
		checkFormat(t, heads, strings.Split(data, "\n"))
	})
}
