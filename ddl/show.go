package ddl

import (
	"strings"

	"instar/api"
	"instar/expr"
	"instar/query"
)

// right tells whether a node is a statement's, as far as it is shown as a whole: a query and an expression in it may be wrong, each for itself.
func right(n api.Node) bool {
	switch n.Op {
	case "create table":
		return len(n.Kids) >= 1 && all(n.Kids, isColumn)
	case "drop table", "drop view":
		return are(n.Kids)
	case "add":
		return are(n.Kids, isColumn, isLiteral)
	case "drop":
		return are(n.Kids, isName)
	case "rename":
		return are(n.Kids, isName, isName)
	case "widen":
		return are(n.Kids, isName, isKind)
	case "split":
		return are(n.Kids, isTable, isTable, anything)
	case "merge":
		return are(n.Kids, isTable, isTable)
	case "create view", "redefine view":
		return are(n.Kids, anything)
	}
	return false
}

// all tells whether all nodes are as asked.
func all(l []api.Node, asked func(n api.Node) bool) bool {
	for _, n := range l {
		if !asked(n) {
			return false
		}
	}
	return true
}

// are tells whether nodes are as asked, one by one.
func are(l []api.Node, asked ...func(n api.Node) bool) bool {
	if len(l) != len(asked) {
		return false
	}
	for i, n := range l {
		if !asked[i](n) {
			return false
		}
	}
	return true
}

func isColumn(n api.Node) bool { return n.Op == "column" && are(n.Kids, isKind) }
func isKind(n api.Node) bool   { return n.Op == "kind" && are(n.Kids) }
func isName(n api.Node) bool   { return n.Op == "col" && are(n.Kids) }
func isTable(n api.Node) bool  { return n.Op == "from" && are(n.Kids) }
func isNumber(n api.Node) bool { return n.Op == "num" && are(n.Kids) }
func anything(api.Node) bool   { return true }

// isLiteral tells whether a node is a Literal's, by its Op and its Kids.
func isLiteral(n api.Node) bool {
	switch n.Op {
	case "neg":
		return are(n.Kids, isNumber)
	case "num", "text", "true", "false", "null":
		return are(n.Kids)
	}
	return false
}

// text is a statement's, of a node that is right.
func text(n api.Node) string {
	l := n.Kids
	switch n.Op {
	case "create table":
		return "create table " + n.Text + "(" + columns(l) + ")"
	case "add":
		return "alter " + n.Text + " add " + columns(l[:1]) + behind(l[1])
	case "drop":
		return "alter " + n.Text + " drop " + l[0].Text
	case "rename", "widen":
		return "alter " + n.Text + " " + n.Op + " " + l[0].Text + " to " + l[1].Text
	case "split":
		return "split " + n.Text + " to " + l[0].Text + " , " + l[1].Text + " where " + expr.Show(l[2])
	case "merge":
		return "merge " + l[0].Text + " , " + l[1].Text + " to " + n.Text
	case "create view", "redefine view":
		return n.Op + " " + n.Text + " = " + query.Show(l[0])
	}
	return n.Op + " " + n.Text
}

// columns is the text of columns, each with its kind.
func columns(l []api.Node) string {
	var w strings.Builder
	for i, n := range l {
		if i > 0 {
			w.WriteString(", ")
		}
		w.WriteString(n.Text + " " + n.Kids[0].Text)
	}
	return w.String()
}

// behind is what stands behind the column of an add: of null, which is none, nothing.
func behind(n api.Node) string {
	if n.Op == "null" && n.Text == "" {
		return ""
	}
	return " = " + expr.Show(n)
}
