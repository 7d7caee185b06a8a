package vertical_test

import (
	"slices"
	"strconv"
	"strings"

	"corpora/api"
	"corpora/corpus"
)

var (
	word    = []api.Attribute{{Name: "word"}}
	set     = []api.Attribute{{Name: "feats", Set: true}}
	wordSet = []api.Attribute{{Name: "word"}, {Name: "feats", Set: true}}
	setWord = []api.Attribute{{Name: "feats", Set: true}, {Name: "word"}, {Name: "tag"}}
)

const open = "<text id=\"t\">\n"

// file returns a file with these lines.
func file(lines ...string) string {
	return strings.Join(lines, "\n") + "\n"
}

// samples returns all lists of at most n pieces.
func samples(n int, pieces ...string) [][]string {
	all := [][]string{nil}
	for begin := 0; n > 0; n-- {
		end := len(all)
		for _, list := range all[begin:end] {
			for _, p := range pieces {
				all = append(all, append(slices.Clone(list), p))
			}
		}
		begin = end
	}
	return all
}

// random returns a function that returns the numbers of a fixed sequence without an obvious order.
func random(seed uint64) func(below int) int {
	state := seed
	return func(below int) int {
		state = state*6364136223846793005 + 1442695040888963407
		return int(state >> 33 % uint64(below))
	}
}

// pick returns one of the elements.
func pick[T any](next func(int) int, list ...T) T {
	return list[next(len(list))]
}

// generate returns a valid corpus with nodes and heads.
func generate(next func(int) int) api.Corpus {
	c := api.Corpus{Attributes: wordSet[:1+next(2)]}
	for i := range next(4) {
		begin := len(c.Tokens)
		end := begin + 1 + next(5)
		for len(c.Tokens) < end {
			values := []string{pick(next, "a", "é b", "", "<s>", "&amp;", "\"", "|"), pick(next, "|", "|a|", "|&|<|")}
			c.Tokens = append(c.Tokens, values[:len(c.Attributes)])
		}
		c.Texts = append(c.Texts, api.Text{Name: "t" + strconv.Itoa(i), Begin: begin, End: end, Meta: generatePairs(next, "a", "b", "idx", "z")})
		for _, name := range []string{"s", "p", "Text"} {
			c.Regions = generateRegions(next, c.Regions, name, begin, end, 3)
		}
		c.Nodes = append(c.Nodes, api.Node{Label: "S", Begin: begin, End: end, Parent: -1})
	}
	for range c.Tokens {
		c.Heads, c.Relations = append(c.Heads, -1), append(c.Relations, "root")
	}
	c.Regions = corpus.SortRegions(c.Regions)
	return c
}

// generatePairs returns pairs with some of these names.
func generatePairs(next func(int) int, names ...string) []api.Pair {
	var list []api.Pair
	for _, name := range names {
		if next(3) == 0 {
			list = append(list, api.Pair{Name: name, Value: pick(next, "", "1", "&<\">", "é ")})
		}
	}
	return list
}

// generateRegions appends regions of a type that lie within a span.
func generateRegions(next func(int) int, list []api.Region, name string, begin, end, depth int) []api.Region {
	for at := begin; at < end && depth > 0; {
		r := api.Region{Type: name, Begin: at, End: at + 1 + next(end-at), Keys: generatePairs(next, "id", "n")}
		at = r.End
		if next(2) == 0 {
			list = generateRegions(next, append(list, r), name, r.Begin, r.End, depth-1)
		}
	}
	return list
}

// generateFile returns a file most of whose lines may stand where they do.
func generateFile(next func(int) int) string {
	data := ""
	var regions []string
	texts, inText := 0, false
	for range next(24) {
		kind := next(12)
		switch {
		case kind == 0 && next(5) == 0:
			data += pick(next, "<text id=\"t0\">", "</text>", "<s>", "</s>", "</p>", "<s", "a\tb\tc", "&", "<s n=\"&#7;\">", "<text>", "") + "\n"
		case !inText:
			data += opening("text", append(generatePairs(next, "a", "z"), api.Pair{Name: "id", Value: "t" + strconv.Itoa(texts)}))
			texts, inText = texts+1, true
		case kind < 3:
			name := pick(next, "s", "p", "np")
			data += opening(name, generatePairs(next, "id", "n"))
			regions = append(regions, name)
		case kind < 6 && len(regions) > 0:
			i := next(len(regions))
			data += "</" + regions[i] + ">\n"
			regions = slices.Delete(regions, i, i+1)
		case kind < 7 && len(regions) == 0:
			data, inText = data+"</text>\n", false
		default:
			data += pick(next, "a", "&amp;b", "é\"", "&#60;", "") + "\t" + pick(next, "|", "|a|", "|&lt;|a|") + "\n"
		}
	}
	for _, name := range regions {
		data += "</" + name + ">\n"
	}
	if inText {
		data += "</text>\n"
	}
	return strings.TrimSuffix(data, pick(next, "", "\n"))
}
