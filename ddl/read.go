package ddl

import (
	"instar/api"
	"instar/expr"
	"instar/lex"
	"instar/query"
	"instar/value"
)

// reader goes through words, up to the first one that may not stand there: it stays at it then, and what is read from there on is nothing.
type reader struct {
	words []lex.Word
	at    int
	wrong bool
}

// part reads what comes.
type part func(r *reader) api.Node

// statements tells what a statement's first word begins.
func statements() map[string]part {
	return map[string]part{
		"create":   (*reader).create,
		"drop":     (*reader).drop,
		"alter":    (*reader).alter,
		"split":    (*reader).split,
		"merge":    (*reader).merge,
		"redefine": (*reader).redefine,
	}
}

// changes tells what the word behind the name of a table begins, that is altered.
func changes() map[string]part {
	return map[string]part{
		"add":    (*reader).add,
		"drop":   (*reader).dropColumn,
		"rename": (*reader).rename,
		"widen":  (*reader).widen,
	}
}

// one reads a word that begins one of these parts, and the part.
func (r *reader) one(parts map[string]part) api.Node {
	w := r.word()
	p, ok := parts[w.Text]
	if !ok || r.wrong || w.Kind != lex.Name {
		return r.stop()
	}
	r.at++
	return p(r)
}

func (r *reader) create() api.Node {
	return r.one(map[string]part{
		"table": (*reader).createTable,
		"view":  (*reader).createView,
	})
}

func (r *reader) createTable() api.Node {
	n := r.name("create table")
	r.must("(")
	n.Kids = append(n.Kids, r.column())
	for r.take(",") {
		n.Kids = append(n.Kids, r.column())
	}
	r.must(")")
	return n
}

func (r *reader) drop() api.Node {
	return r.one(map[string]part{
		"table": func(r *reader) api.Node { return r.name("drop table") },
		"view":  func(r *reader) api.Node { return r.name("drop view") },
	})
}

func (r *reader) alter() api.Node {
	table := r.name("")
	n := r.one(changes())
	n.Text = table.Text
	return n
}

func (r *reader) add() api.Node {
	n := api.Node{Op: "add", Kids: []api.Node{r.column()}}
	if r.take("=") {
		n.Kids = append(n.Kids, r.literal())
	} else {
		n.Kids = append(n.Kids, api.Node{Op: "null"})
	}
	return n
}

func (r *reader) dropColumn() api.Node {
	return api.Node{Op: "drop", Kids: []api.Node{r.name("col")}}
}

func (r *reader) rename() api.Node {
	n := api.Node{Op: "rename", Kids: []api.Node{r.name("col")}}
	r.must("to")
	n.Kids = append(n.Kids, r.name("col"))
	return n
}

func (r *reader) widen() api.Node {
	n := api.Node{Op: "widen", Kids: []api.Node{r.name("col")}}
	r.must("to")
	n.Kids = append(n.Kids, r.kind())
	return n
}

func (r *reader) split() api.Node {
	n := r.name("split")
	r.must("to")
	n.Kids = r.pair()
	r.must("where")
	n.Kids = append(n.Kids, r.inner(expr.Read))
	return n
}

func (r *reader) merge() api.Node {
	l := r.pair()
	r.must("to")
	n := r.name("merge")
	n.Kids = l
	return n
}

// pair reads the names of two tables.
func (r *reader) pair() []api.Node {
	left := r.name("from")
	r.must(",")
	return []api.Node{left, r.name("from")}
}

func (r *reader) createView() api.Node { return r.view("create view") }

func (r *reader) redefine() api.Node {
	r.must("view")
	return r.view("redefine view")
}

// view reads a view's name, and its query.
func (r *reader) view(op string) api.Node {
	n := r.name(op)
	r.must("=")
	n.Kids = []api.Node{r.inner(query.Read)}
	return n
}

// column reads a column's name, and its kind.
func (r *reader) column() api.Node {
	n := r.name("column")
	n.Kids = []api.Node{r.kind()}
	return n
}

func (r *reader) kind() api.Node {
	w := r.word()
	if _, ok := value.Named(w.Text); !ok || r.wrong || w.Kind != lex.Name {
		return r.stop()
	}
	r.at++
	return api.Node{Op: "kind", Text: w.Text}
}

func (r *reader) literal() api.Node {
	if r.take("-") {
		return api.Node{Op: "neg", Kids: []api.Node{r.alone(isNumber)}}
	}
	return r.alone(isLiteral)
}

// alone reads a word that is by itself an expression as asked.
func (r *reader) alone(asked func(n api.Node) bool) api.Node {
	n, _, e := expr.Read(r.words[r.at:min(r.at+1, len(r.words))], 0)
	if r.wrong || e != api.OK || !asked(n) {
		return r.stop()
	}
	r.at++
	return n
}

// inner reads what another layer reads: an expression, or a query.
func (r *reader) inner(read func(l []lex.Word, at int) (api.Node, int, api.Errno)) api.Node {
	if r.wrong {
		return api.Node{}
	}
	n, at, e := read(r.words, r.at)
	r.at = at
	r.wrong = e != api.OK
	return n
}

// name reads a Name as the Text of a node.
func (r *reader) name(op string) api.Node {
	w := r.word()
	if r.wrong || w.Kind != lex.Name || w.Text == "" || lex.Own(w.Text) {
		return r.stop()
	}
	r.at++
	return api.Node{Op: op, Text: w.Text}
}

// word is the one that comes; behind the last one the zero Word, which is none of layer 8.
func (r *reader) word() lex.Word {
	if r.at < len(r.words) {
		return r.words[r.at]
	}
	return lex.Word{}
}

// take steps over a mark, or a statement's own word, if it comes.
func (r *reader) take(text string) bool {
	w := r.word()
	if r.wrong || w.Kind == lex.Quote || w.Text != text {
		return false
	}
	r.at++
	return true
}

// must steps over one that has to come.
func (r *reader) must(text string) {
	r.wrong = !r.take(text)
}

// stop stays at the word that comes.
func (r *reader) stop() api.Node {
	r.wrong = true
	return api.Node{}
}
