package plan

import (
	"slices"

	"instar/api"
)

// isLeaf tells whether a node has no Kids.
func isLeaf(n api.Node) bool {
	return len(n.Kids) == 0
}

// isFilter tells whether a node is as a filter's is.
func isFilter(n api.Node) bool {
	return n.Text == "" && len(n.Kids) == 2
}

// isProject tells whether a node is as a project's is.
func isProject(n api.Node) bool {
	return n.Text == "" && len(n.Kids) >= 2 && all(n.Kids[1:], func(item api.Node) bool {
		return item.Op == "item" && len(item.Kids) == 1
	})
}

// isJoin tells whether a node is as a join's is.
func isJoin(n api.Node) bool {
	return n.Text == "" && len(n.Kids) >= 3 && all(n.Kids[2:], func(on api.Node) bool {
		return on.Op == "on" && len(on.Kids) == 1 && all(on.Kids, isColumn)
	})
}

// isUnion tells whether a node is as a union's is.
func isUnion(n api.Node) bool {
	return n.Text == "" && len(n.Kids) >= 2
}

// isDistinct tells whether a node is as a distinct's is.
func isDistinct(n api.Node) bool {
	return n.Text == "" && len(n.Kids) == 1
}

// isGroup tells whether a node is as a group's is.
func isGroup(n api.Node) bool {
	return n.Text == "" && len(n.Kids) >= 3 && isBy(n.Kids[1]) && all(n.Kids[2:], func(agg api.Node) bool {
		return agg.Op == "agg" && len(agg.Kids) == 1 && all(agg.Kids, isCall)
	})
}

// isBy tells whether a node is as what a group is by.
func isBy(n api.Node) bool {
	return n.Op == "by" && n.Text == "" && all(n.Kids, isColumn)
}

// isColumn tells whether a node names a column.
func isColumn(n api.Node) bool {
	return n.Op == "col" && isLeaf(n)
}

// isCall tells whether a node is what a group asks of its rows: their count, which is of no column, or something of one.
func isCall(n api.Node) bool {
	switch n.Op {
	case "count":
		return n.Text == "" && isLeaf(n)
	case "sum", "min", "max":
		return isLeaf(n)
	}
	return false
}

// all tells whether all of some nodes are as asked.
func all(l []api.Node, asked func(n api.Node) bool) bool {
	return !slices.ContainsFunc(l, func(n api.Node) bool { return !asked(n) })
}
