package expr

import (
	"strconv"

	"instar/api"
	"instar/lex"
)

// reader goes through words, and steps over a word only where one may stand: so it is, where something goes wrong, at the word that may not.
type reader struct {
	words []lex.Word
	at    int
}

// next reads what holds more than its neighbours do; false, if it goes wrong.
type next func() (api.Node, bool)

// of is a node with these Kids.
func of(op string, kids ...api.Node) api.Node {
	return api.Node{Op: op, Kids: kids}
}

func (r *reader) or() (api.Node, bool)    { return r.chain(r.and, "or") }
func (r *reader) and() (api.Node, bool)   { return r.chain(r.not, "and") }
func (r *reader) sum() (api.Node, bool)   { return r.chain(r.times, "+", "-") }
func (r *reader) times() (api.Node, bool) { return r.chain(r.sign, "*") }

// chain reads parts between which one of these words stands, the left ones first.
func (r *reader) chain(part next, between ...string) (api.Node, bool) {
	n, ok := part()
	for ok {
		op := r.take(between...)
		if op == "" {
			break
		}
		var right api.Node
		right, ok = part()
		n = of(op, n, right)
	}
	return n, ok
}

// ahead reads a part, and tells it as the only Kid of a node.
func (r *reader) ahead(op string, part next) (api.Node, bool) {
	n, ok := part()
	return of(op, n), ok
}

func (r *reader) not() (api.Node, bool) {
	if r.take("not") != "" {
		return r.ahead("not", r.not)
	}
	return r.test()
}

func (r *reader) test() (api.Node, bool) {
	n, ok := r.sum()
	if !ok {
		return n, false
	}
	if r.take("is") != "" {
		return of("is null", n), r.take("null") != ""
	}
	// No chain: a test has no test beside it, but in brackets.
	op := r.take("=", "<>", "<", "<=", ">", ">=")
	if op == "" {
		return n, true
	}
	right, ok := r.sum()
	return of(op, n, right), ok
}

func (r *reader) sign() (api.Node, bool) {
	if r.take("-") != "" {
		return r.ahead("neg", r.sign)
	}
	if r.take("(") != "" {
		n, ok := r.or()
		return n, ok && r.take(")") != ""
	}
	if op := r.take("true", "false", "null"); op != "" {
		return of(op), true
	}
	n, ok := operand(r.word())
	if ok {
		r.at++
	}
	return n, ok
}

// word is the one that comes; behind the last one the zero Word, which is none of layer 8.
func (r *reader) word() lex.Word {
	if r.at < len(r.words) {
		return r.words[r.at]
	}
	return lex.Word{}
}

// take is the one of these marks and own names that comes, and is stepped over; empty, if none of them comes.
func (r *reader) take(texts ...string) string {
	w := r.word()
	for _, t := range texts {
		// The kind is asked too: a Quote may have any text, a mark's or a name's as well.
		if w.Text == t && w.Kind == kind(t) {
			r.at++
			return t
		}
	}
	return ""
}

// kind is that of a mark or an own name.
func kind(text string) lex.Kind {
	if lex.Own(text) {
		return lex.Name
	}
	return lex.Mark
}

// operand is the node of a Figure, a Quote or a Name; false of every other word.
func operand(w lex.Word) (api.Node, bool) {
	if !right(w) {
		return api.Node{}, false
	}
	switch w.Kind {
	case lex.Figure:
		n, err := strconv.ParseInt(w.Text, 10, 64)
		if err != nil {
			return api.Node{}, false
		}
		return api.Node{Op: "num", Text: strconv.FormatInt(n, 10)}, true
	case lex.Quote:
		return api.Node{Op: "text", Text: w.Text}, true
	case lex.Name:
		return api.Node{Op: "col", Text: w.Text}, !lex.Own(w.Text)
	}
	return api.Node{}, false
}

// right tells whether a word is one of layer 8: whoever hands words in may have made them of any text.
func right(w lex.Word) bool {
	l, _, e := lex.Words(lex.Text(w))
	return e == api.OK && len(l) == 1 && l[0].Kind == w.Kind && l[0].Text == w.Text
}
