package plan

import (
	"math"
	"slices"

	"instar/api"
	"instar/query"
	"instar/schema"
)

// form is how queries of an Op are made, and answered.
type form struct {
	queries int                                     // how many of its Kids are queries, from the left, as far as they are there
	formed  func(n api.Node) bool                   // whether a node is such a query's, whatever the queries and expressions in it are
	fill    func(p *api.Plan, n api.Node) api.Errno // gives a plan what it has besides its Kids; its columns are those of the first one, till then
}

// maker makes plans: it has each Op's form.
type maker map[string]form

// made is a plan, and how many `from`s its query has in all.
type made struct {
	plan  api.Plan
	froms int
}

// over is what makes plans over tables.
func over(tables ...api.Table) maker {
	return maker{
		"from":     {0, isLeaf, func(p *api.Plan, n api.Node) api.Errno { return from(p, n.Text, tables) }},
		"filter":   {1, isFilter, filter},
		"project":  {1, isProject, project},
		"join":     {2, isJoin, join},
		"union":    {math.MaxInt, isUnion, union},
		"distinct": {1, isDistinct, func(*api.Plan, api.Node) api.Errno { return api.OK }},
		"group":    {1, isGroup, group},
	}
}

// query is a query's plan.
func (m maker) query(n api.Node) (made, api.Errno) {
	// A node of another Op has no form: none of its Kids is a query.
	f := m[n.Op]
	of := n.Kids[:min(f.queries, len(n.Kids))]
	q, fault := m.queries(of)
	if fault != api.OK {
		return made{}, fault
	}
	// An expression is no place for a `from`, but what is wrong with it comes later than that there are too many.
	q.froms += len(query.Leaves(api.Node{Op: n.Op, Kids: n.Kids[len(of):]}))
	switch {
	case f.formed == nil || !f.formed(n):
		return made{}, api.ErrArg
	case q.froms > api.MaxLeaves:
		return made{}, api.ErrFull
	}
	q.plan.Op = n.Op
	if fault := f.fill(&q.plan, n); fault != api.OK {
		return made{}, fault
	}
	if fault := number(q.plan.Cols); fault != api.OK {
		return made{}, fault
	}
	return q, api.OK
}

// queries is a plan of no Op, whose Kids are these queries' plans, and whose columns are those of the first one.
func (m maker) queries(l []api.Node) (made, api.Errno) {
	var all made
	for _, n := range l {
		q, fault := m.query(n)
		if fault != api.OK {
			return made{}, fault
		}
		all.plan.Kids = append(all.plan.Kids, q.plan)
		all.froms += q.froms
	}
	if len(l) > 0 {
		all.plan.Cols = slices.Clone(all.plan.Kids[0].Cols)
	}
	return all, api.OK
}

// number gives columns their IDs; it tells what is wrong with their names, or that they are too many. That is all that a query has to answer for: no other fault of a table's columns is the query's.
func number(cols []api.Column) api.Errno {
	for i := range cols {
		cols[i].ID = i + 1
	}
	names := texts(cols, func(c api.Column) string { return c.Name })
	odd := slices.ContainsFunc(names, func(s string) bool { return !schema.Name(s) })
	slices.Sort(names)
	switch {
	case odd:
		return api.ErrArg
	case len(slices.Compact(names)) < len(cols):
		return api.ErrTwice
	case len(cols) > api.MaxCols:
		return api.ErrFull
	}
	return api.OK
}
