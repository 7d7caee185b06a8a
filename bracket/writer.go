package bracket

import (
	"strings"

	"corpora/api"
)

// writer writes the items of a text from left to right.
type writer struct {
	nodes []api.Node
	text  strings.Builder
	next  int // the index of the first constituent that has not been opened
	open  stack
}

// token writes a token, and what begins in front of it or ends behind it.
func (w *writer) token(at int) {
	// Nodes that are valid stand in the order in which they are opened.
	for w.next < len(w.nodes) && w.nodes[w.next].Begin == at {
		w.begin("(" + w.nodes[w.next].Label)
		w.open.push(w.next)
		w.next++
	}
	w.begin("*")
	w.end()
	for len(w.open) > 0 && w.nodes[w.open.top()].End == at+1 {
		w.open.pop()
		w.text.WriteString(")")
		w.end()
	}
}

// begin writes the first part of an item, and what stands in front of it.
func (w *writer) begin(part string) {
	if len(w.open) > 0 {
		w.text.WriteString(" ")
	}
	w.text.WriteString(part)
}

// end writes what follows an item.
func (w *writer) end() {
	if len(w.open) == 0 {
		w.text.WriteString("\n")
	}
}
