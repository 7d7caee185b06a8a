package depend_test

import (
	"slices"
	"strings"
	"testing"

	"corpora/api"
	"corpora/depend"
)

// P9.5

func TestFormat(t *testing.T) {
	for _, c := range []struct {
		heads     []int
		relations []string
		want      string
	}{
		{nil, nil, ""}, {[]int{}, []string{}, ""}, {[]int{-1}, []string{""}, "0\t\n"}, {[]int{-1}, []string{"root"}, "0\troot\n"},
		{[]int{1, -1}, []string{"det", "root"}, "2\tdet\n0\troot\n"}, {[]int{1, -1, 1}, []string{"a", "", "c_-9"}, "2\ta\n0\t\n2\tc_-9\n"}, {[]int{-1, -1}, []string{"", "_"}, "0\t\n0\t_\n"},
		{[]int{10, 9, -1, -1, -1, -1, -1, -1, -1, -1, 9}, []string{"Z", "", "", "", "", "", "", "", "", "", strings.Repeat("r", 32)}, "11\tZ\n10\t\n" + strings.Repeat("0\t\n", 8) + "10\t" + strings.Repeat("r", 32) + "\n"},
	} {
		if got, e := depend.Format(c.heads, c.relations); got != c.want || e != api.OK {
			t.Errorf("Format(%v, %q) = %q, %d; expected %q", c.heads, c.relations, got, e, c.want)
		}
		checkFormat(t, c.heads, c.relations)
	}
}

func TestFormatErrors(t *testing.T) {
	for i, c := range []struct {
		heads     []int
		relations []string
		e         api.Errno
	}{
		{chain(4097), nil, api.ErrLimit}, {make([]int, 4097), make([]string, 4097), api.ErrLimit}, {made(4097, func(int) int { return -2 }), []string{"9"}, api.ErrLimit},
		{[]int{1}, []string{""}, api.ErrRange}, {[]int{-2}, []string{"9"}, api.ErrRange}, {[]int{0, 9}, nil, api.ErrRange}, {[]int{-1, 2}, []string{"", ""}, api.ErrRange},
		{[]int{0}, []string{""}, api.ErrCycle}, {[]int{1, 0}, []string{"9"}, api.ErrCycle}, {[]int{-1, 1}, []string{"", "9"}, api.ErrCycle},
		{[]int{-1}, nil, api.ErrCount}, {nil, []string{""}, api.ErrCount}, {[]int{-1}, []string{"9", ""}, api.ErrCount}, {[]int{-1, 0}, []string{"9"}, api.ErrCount}, {nil, []string{"9"}, api.ErrCount}, {[]int{-1}, make([]string, 4097), api.ErrCount},
		{[]int{-1}, []string{"9"}, api.ErrName}, {[]int{-1}, []string{"-"}, api.ErrName}, {[]int{-1, 0}, []string{"", "a b"}, api.ErrName}, {[]int{-1}, []string{"a\t"}, api.ErrName}, {[]int{-1}, []string{"a\n"}, api.ErrName}, {[]int{-1}, []string{"\n"}, api.ErrName}, {[]int{-1}, []string{" "}, api.ErrName},
		{[]int{-1}, []string{"é"}, api.ErrName}, {[]int{-1}, []string{"a\xff"}, api.ErrName}, {[]int{-1}, []string{strings.Repeat("r", 33)}, api.ErrName}, {[]int{-1, 0, 1}, []string{"a", "", strings.Repeat("r", 33)}, api.ErrName},
	} {
		if got, e := depend.Format(c.heads, c.relations); got != "" || e != c.e {
			t.Errorf("%d: %q, %d; expected %d", i, got, e, c.e)
		}
		checkFormat(t, c.heads, c.relations)
	}
}

func TestFormatLimits(t *testing.T) {
	name := strings.Repeat("r", 32)
	relations := slices.Repeat([]string{name}, 4096)
	want := strings.Repeat("4096\t"+name+"\n", 4095) + "0\t" + name + "\n"
	if got, e := depend.Format(star(4096, 4095), relations); got != want || e != api.OK {
		t.Errorf("Format of the greatest number of tokens = %d bytes, %d", len(got), e)
	}
	for _, heads := range [][]int{chain(4096), back(4096), star(4096, 0)} {
		checkFormat(t, heads, relations)
	}
}

func TestFormatOfAllHeads(t *testing.T) {
	for n := range 4 {
		for _, heads := range allHeads(n, -2, n) {
			for _, relations := range [][]string{nil, {"a"}, {"", "b"}, {"9", "b"}, {"a", "b", ""}, {"a", "b", "-"}} {
				checkFormat(t, heads, relations)
			}
		}
	}
}

func TestFormatOfAllBytes(t *testing.T) {
	for b := range 256 {
		c := string([]byte{byte(b)})
		for _, relation := range []string{c, "a" + c, c + "a", "a" + c + "a"} {
			checkFormat(t, []int{-1, 0}, []string{"x", relation})
		}
	}
}

func TestFormatOfGeneratedHeads(t *testing.T) {
	next := random(95)
	for range 10000 {
		heads := generate(next, next(20))
		relations := generateRelations(next, len(heads))
		if _, e := depend.Format(heads, relations); e != api.OK {
			t.Fatalf("Format(%v, %q) = %d", heads, relations, e)
		}
		checkFormat(t, heads, relations)
	}
}

func TestFormatLeavesItsArguments(t *testing.T) {
	heads := append(make([]int, 0, 4), 1, -1)
	relations := append(make([]string, 0, 4), "a", "")
	if _, e := depend.Format(heads, relations); e != api.OK {
		t.Error(e)
	}
	if !slices.Equal(heads[:4], []int{1, -1, 0, 0}) || !slices.Equal(relations[:4], []string{"a", "", "", ""}) {
		t.Errorf("the arguments are %v and %q now", heads[:4], relations[:4])
	}
}
