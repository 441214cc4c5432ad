package expr

import (
	"strings"

	"instar/api"
	"instar/value"
)

// level tells how weak a node is, or may be at its place: the weakest is the least.
type level int

// The levels, as the document's words are named.
const (
	or level = iota
	and
	not
	test
	sum
	times
	sign
	word
)

// rule is how the nodes of an Op are: their level, the weakest that each Kid may be without brackets, and whether they have a Text.
type rule struct {
	at   level
	kids []level
	text bool
}

// rules are those of all Ops.
func rules() map[string]rule {
	tests := rule{at: test, kids: []level{sum, sum}}
	sums := rule{at: sum, kids: []level{sum, times}}
	texts := rule{at: word, text: true}
	words := rule{at: word}
	return map[string]rule{
		"or":      {at: or, kids: []level{or, and}},
		"and":     {at: and, kids: []level{and, not}},
		"not":     {at: not, kids: []level{not}},
		"=":       tests,
		"<>":      tests,
		"<":       tests,
		"<=":      tests,
		">":       tests,
		">=":      tests,
		"is null": {at: test, kids: []level{sum}},
		"+":       sums,
		"-":       sums,
		"*":       {at: times, kids: []level{times, sign}},
		// A sign behind a sign would be read again, but the document puts it in brackets.
		"neg":   {at: sign, kids: []level{word}},
		"num":   texts,
		"text":  texts,
		"col":   texts,
		"true":  words,
		"false": words,
		"null":  words,
	}
}

// writer writes nodes' texts, one behind the other.
type writer struct {
	rules map[string]rule
	text  strings.Builder
}

// rule is that of a node; false, if the node is not as its Op's are: then it is shown as one word.
func (w *writer) rule(n api.Node) (rule, bool) {
	r, ok := w.rules[n.Op]
	if !ok || len(n.Kids) != len(r.kids) || n.Text != "" && !r.text {
		return rule{at: word}, false
	}
	return r, true
}

// node writes a node without brackets about it.
func (w *writer) node(n api.Node) {
	r, ok := w.rule(n)
	if !ok {
		w.text.WriteString("?")
		return
	}
	// What is one word falls into what shows less of it: a Quote into a Text, and that into the word itself.
	switch n.Op {
	case "text":
		n.Text = value.Show(api.Value{Kind: api.Text, S: n.Text})
		fallthrough
	case "num", "col":
		n.Op = n.Text
		fallthrough
	case "true", "false", "null":
		w.text.WriteString(n.Op)
	case "neg":
		w.text.WriteString("-")
		w.kid(n.Kids[0], r.kids[0])
	case "not":
		w.text.WriteString("not ")
		w.kid(n.Kids[0], r.kids[0])
	case "is null":
		w.kid(n.Kids[0], r.kids[0])
		w.text.WriteString(" is null")
	default:
		w.kid(n.Kids[0], r.kids[0])
		w.text.WriteString(" " + n.Op + " ")
		w.kid(n.Kids[1], r.kids[1])
	}
}

// kid writes a node at a place that allows this level.
func (w *writer) kid(n api.Node, allowed level) {
	if r, _ := w.rule(n); r.at >= allowed {
		w.node(n)
		return
	}
	w.text.WriteString("(")
	w.node(n)
	w.text.WriteString(")")
}
