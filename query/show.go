package query

import (
	"strings"

	"instar/api"
	"instar/expr"
)

// writer writes nodes' texts, one behind the other.
type writer struct {
	text strings.Builder
}

func (w *writer) query(n api.Node) {
	switch {
	case !right(n):
		w.text.WriteString("?")
	case n.Op == "from":
		w.text.WriteString(n.Text)
	default:
		w.text.WriteString(n.Op + "(")
		w.kids(n)
		w.text.WriteString(")")
	}
}

// kids writes what stands in a query's brackets.
func (w *writer) kids(n api.Node) {
	for i, k := range n.Kids {
		if n.Op == "group" && i == 1 && len(k.Kids) == 0 {
			// The by of a group by nothing has no words, nor a comma.
			continue
		}
		if i > 0 {
			w.text.WriteString(", ")
		}
		switch {
		case i < inner(n):
			w.query(k)
		case n.Op == "filter":
			w.text.WriteString(expr.Show(k))
		default:
			w.part(k)
		}
	}
}

// inner is how many Kids of a query's node are queries: its first ones.
func inner(n api.Node) int {
	switch n.Op {
	case "union":
		return len(n.Kids)
	case "join":
		return 2
	}
	return 1
}

// part writes an item, an on, a by, or an agg.
func (w *writer) part(n api.Node) {
	if n.Op == "by" {
		w.text.WriteString("by")
		for _, k := range n.Kids {
			w.text.WriteString(" " + k.Text)
		}
		return
	}
	w.text.WriteString(n.Text + " = ")
	k := n.Kids[0]
	switch n.Op {
	case "item":
		w.text.WriteString(expr.Show(k))
	case "on":
		w.text.WriteString(k.Text)
	case "agg":
		w.text.WriteString(k.Op + "(" + k.Text + ")")
	}
}

// right tells whether a node is a query's, as far as it is shown as a whole: the queries and the expressions in it may be wrong, each for itself.
func right(n api.Node) bool {
	if n.Text != "" && n.Op != "from" {
		return false
	}
	l := n.Kids
	switch n.Op {
	case "from":
		return len(l) == 0
	case "filter":
		return len(l) == 2
	case "project":
		return len(l) >= 2 && all(l[1:], isItem)
	case "join":
		return len(l) >= 3 && all(l[2:], isOn)
	case "union":
		return len(l) >= 2
	case "distinct":
		return len(l) == 1
	case "group":
		return len(l) >= 3 && isBy(l[1]) && all(l[2:], isAgg)
	}
	return false
}

// all tells whether all nodes are as asked.
func all(l []api.Node, asked func(n api.Node) bool) bool {
	for _, n := range l {
		if !asked(n) {
			return false
		}
	}
	return true
}

func isItem(n api.Node) bool { return n.Op == "item" && len(n.Kids) == 1 }
func isOn(n api.Node) bool   { return n.Op == "on" && len(n.Kids) == 1 && isColumn(n.Kids[0]) }
func isBy(n api.Node) bool   { return n.Op == "by" && n.Text == "" && all(n.Kids, isColumn) }
func isAgg(n api.Node) bool  { return n.Op == "agg" && len(n.Kids) == 1 && isCall(n.Kids[0]) }

func isColumn(n api.Node) bool { return n.Op == "col" && len(n.Kids) == 0 }

// isCall tells whether a node is what an agg is told by.
func isCall(n api.Node) bool {
	switch n.Op {
	case "count":
		return len(n.Kids) == 0 && n.Text == ""
	case "sum", "min", "max":
		return len(n.Kids) == 0
	}
	return false
}
