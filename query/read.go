package query

import (
	"math"
	"slices"

	"instar/api"
	"instar/expr"
	"instar/lex"
)

// reader goes through words, and steps over a word only where one may stand: so it is, where something goes wrong, at the word that may not.
type reader struct {
	words         []lex.Word
	at            int
	queries, aggs map[string]part
}

// part reads what comes; false, if it goes wrong.
type part func(r *reader) (api.Node, bool)

// many is how many parts a list has at the most that has no end.
const many = math.MaxInt

// queries tells what a query's word begins, in the brackets behind it.
func queries() map[string]part {
	return map[string]part{
		"filter":   (*reader).filter,
		"project":  (*reader).project,
		"join":     (*reader).join,
		"union":    (*reader).union,
		"distinct": (*reader).distinct,
		"group":    (*reader).group,
	}
}

// aggs tells what an Agg's word begins, in the brackets behind it.
func aggs() map[string]part {
	return map[string]part{
		"count": (*reader).nothing,
		"sum":   (*reader).column,
		"min":   (*reader).column,
		"max":   (*reader).column,
	}
}

func (r *reader) query() (api.Node, bool) {
	if r.word(0).Kind == lex.Name && r.mark(1, "(") {
		if p, ok := r.queries[r.word(0).Text]; ok {
			return r.call(p)
		}
	}
	// A query's word without a bracket behind it is a name as any other.
	return r.name("from")
}

// call reads a word, and, in brackets, the part that it begins: a node whose Op is the word.
func (r *reader) call(p part) (api.Node, bool) {
	op := r.word(0).Text
	r.at++
	if !r.take("(") {
		return api.Node{}, false
	}
	n, ok := p(r)
	n.Op = op
	return n, ok && r.take(")")
}

// list reads parts with a comma between them, each by its place among them, and tells them as the Kids of a node.
func (r *reader) list(least, most int, next func(place int) (api.Node, bool)) (api.Node, bool) {
	var n api.Node
	for len(n.Kids) < least || len(n.Kids) < most && r.mark(0, ",") {
		if len(n.Kids) > 0 && !r.take(",") {
			return api.Node{}, false
		}
		k, ok := next(len(n.Kids))
		if !ok {
			return api.Node{}, false
		}
		n.Kids = append(n.Kids, k)
	}
	return n, true
}

func (r *reader) filter() (api.Node, bool) {
	return r.list(2, 2, func(place int) (api.Node, bool) {
		if place < 1 {
			return r.query()
		}
		return r.expression()
	})
}

func (r *reader) project() (api.Node, bool) {
	return r.list(2, many, func(place int) (api.Node, bool) {
		if place < 1 {
			return r.query()
		}
		return r.named("item", (*reader).expression)
	})
}

func (r *reader) join() (api.Node, bool) {
	return r.list(3, many, func(place int) (api.Node, bool) {
		if place < 2 {
			return r.query()
		}
		return r.named("on", (*reader).column)
	})
}

func (r *reader) union() (api.Node, bool) {
	return r.list(2, many, func(int) (api.Node, bool) { return r.query() })
}

func (r *reader) distinct() (api.Node, bool) {
	return r.list(1, 1, func(int) (api.Node, bool) { return r.query() })
}

func (r *reader) group() (api.Node, bool) {
	var by api.Node
	n, ok := r.list(2, many, func(place int) (api.Node, bool) {
		if place < 1 {
			return r.query()
		}
		if place == 1 {
			// Ahead of the first Agg alone: behind it, or behind a by, the name is an Agg's.
			var ok bool
			if by, ok = r.by(); !ok {
				return by, false
			}
		}
		return r.named("agg", (*reader).agg)
	})
	if ok {
		n.Kids = slices.Insert(n.Kids, 1, by)
	}
	return n, ok
}

// by reads what a group is by, if that comes, and the comma that must follow it, as an Agg must.
func (r *reader) by() (api.Node, bool) {
	n := api.Node{Op: "by"}
	if r.word(0).Kind != lex.Name || r.word(0).Text != "by" || r.mark(1, "=") {
		return n, true
	}
	r.at++
	for len(n.Kids) == 0 || isName(r.word(0)) {
		k, ok := r.column()
		if !ok {
			return n, false
		}
		n.Kids = append(n.Kids, k)
	}
	return n, r.take(",")
}

// agg reads an Agg's word, and its brackets.
func (r *reader) agg() (api.Node, bool) {
	p, ok := r.aggs[r.word(0).Text]
	if !ok || r.word(0).Kind != lex.Name {
		return api.Node{}, false
	}
	return r.call(p)
}

// named reads a name, the mark `=`, and a part, and tells the part as the only Kid of a node with the name.
func (r *reader) named(op string, p part) (api.Node, bool) {
	n, ok := r.name(op)
	if !ok || !r.take("=") {
		return n, false
	}
	k, ok := p(r)
	n.Kids = []api.Node{k}
	return n, ok
}

func (r *reader) nothing() (api.Node, bool) { return api.Node{}, true }
func (r *reader) column() (api.Node, bool)  { return r.name("col") }

// name reads a Name as the Text of a node.
func (r *reader) name(op string) (api.Node, bool) {
	w := r.word(0)
	if !isName(w) {
		return api.Node{}, false
	}
	r.at++
	return api.Node{Op: op, Text: w.Text}, true
}

func (r *reader) expression() (api.Node, bool) {
	n, at, e := expr.Read(r.words, r.at)
	r.at = at
	return n, e == api.OK
}

// word is the one that comes, or one so many behind it; behind the last one the zero Word, which is none of layer 8.
func (r *reader) word(behind int) lex.Word {
	if at := r.at + behind; at < len(r.words) {
		return r.words[at]
	}
	return lex.Word{}
}

// mark tells whether this mark comes, so many words behind the one that comes.
func (r *reader) mark(behind int, text string) bool {
	w := r.word(behind)
	return w.Kind == lex.Mark && w.Text == text
}

// take steps over a mark, if it comes.
func (r *reader) take(text string) bool {
	if !r.mark(0, text) {
		return false
	}
	r.at++
	return true
}

// isName tells whether a word is a Name of layer 8, and none of the language's own: whoever hands words in may have made them of any text.
func isName(w lex.Word) bool {
	if w.Kind != lex.Name || lex.Own(w.Text) {
		return false
	}
	l, _, e := lex.Words(w.Text)
	return e == api.OK && len(l) == 1 && l[0].Kind == w.Kind && l[0].Text == w.Text
}
