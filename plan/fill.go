package plan

import (
	"slices"

	"instar/api"
	"instar/calc"
	"instar/schema"
)

// from gives a plan the first table of a name.
func from(p *api.Plan, name string, tables []api.Table) api.Errno {
	i := slices.IndexFunc(tables, func(t api.Table) bool { return t.Name == name })
	if i < 0 {
		return api.ErrName
	}
	p.Table, p.Cols = name, slices.Clone(tables[i].Cols)
	return api.OK
}

// filter gives a plan its expression.
func filter(p *api.Plan, n api.Node) api.Errno {
	k, fault := calc.Type(n.Kids[1], p.Cols)
	switch {
	case fault != api.OK:
		return fault
	case k != api.Bool && k != api.Null:
		return api.ErrType
	}
	p.Exprs = copied(n.Kids[1:])
	return api.OK
}

// project gives a plan its items' expressions, and a column of each.
func project(p *api.Plan, n api.Node) api.Errno {
	s := schema.Schema(p.Cols)
	p.Cols = nil
	for _, item := range n.Kids[1:] {
		k, fault := calc.Type(item.Kids[0], s)
		switch {
		case fault != api.OK:
			return fault
		case k == api.Null:
			return api.ErrType
		}
		p.Exprs = append(p.Exprs, copied(item.Kids)...)
		p.Cols = append(p.Cols, api.Column{Name: item.Text, Kind: k})
	}
	return api.OK
}

// join gives a plan its pairs, and the columns of both its Kids.
func join(p *api.Plan, n api.Node) api.Errno {
	left, right := schema.Schema(p.Kids[0].Cols), schema.Schema(p.Kids[1].Cols)
	for _, on := range n.Kids[2:] {
		l, is := left.Find(on.Text)
		r, also := right.Find(on.Kids[0].Text)
		switch {
		case !is || !also:
			return api.ErrName
		case left[l].Kind != right[r].Kind:
			return api.ErrType
		}
		p.On = append(p.On, api.Pair{Left: l, Right: r})
	}
	p.Cols = append(p.Cols, right...)
	return api.OK
}

// union asks whether all Kids' columns are of the same kinds.
func union(p *api.Plan, _ api.Node) api.Errno {
	kinds := schema.Schema(p.Cols).Kinds()
	for _, k := range p.Kids {
		if !slices.Equal(schema.Schema(k.Cols).Kinds(), kinds) {
			return api.ErrType
		}
	}
	return api.OK
}

// group gives a plan the places of what it is by, and what it asks of its rows, with the columns of both.
func group(p *api.Plan, n api.Node) api.Errno {
	s := schema.Schema(p.Cols)
	p.Cols = nil
	for _, name := range n.Kids[1].Kids {
		at, is := s.Find(name.Text)
		if !is {
			return api.ErrName
		}
		p.By = append(p.By, at)
		p.Cols = append(p.Cols, s[at])
	}
	for _, n := range n.Kids[2:] {
		a, k, fault := agg(n.Kids[0], s)
		if fault != api.OK {
			return fault
		}
		p.Aggs = append(p.Aggs, a)
		p.Cols = append(p.Cols, api.Column{Name: n.Text, Kind: k})
	}
	return api.OK
}

// agg is what a call asks of columns, and the kind of what it comes to.
func agg(call api.Node, s schema.Schema) (api.Agg, api.Kind, api.Errno) {
	if call.Op == "count" {
		return api.Agg{Fn: call.Op}, api.Int64, api.OK
	}
	at, is := s.Find(call.Text)
	if !is {
		return api.Agg{}, api.Null, api.ErrName
	}
	k := s[at].Kind
	if call.Op == "sum" {
		if k != api.Int32 && k != api.Int64 {
			return api.Agg{}, api.Null, api.ErrType
		}
		k = api.Int64
	}
	return api.Agg{Fn: call.Op, At: at}, k, api.OK
}

// copied is nodes of one's own: their Kids' lists, and those in them, are new ones.
func copied(l []api.Node) []api.Node {
	c := slices.Clone(l)
	for i := range c {
		c[i].Kids = copied(c[i].Kids)
	}
	return c
}
