package eval

import (
	"slices"

	"instar/api"
	"instar/calc"
	"instar/row"
	"instar/wide"
	"instar/zset"
)

// step is what plans of an Op come to, if their Kids come to sets.
type step func(p api.Plan, in ...zset.Set) (zset.Set, api.Errno)

// steps are those of all Ops but `from`, which has no Kids.
func steps() map[string]step {
	return map[string]step{
		"filter":   of(1, filter),
		"project":  of(1, project),
		"join":     of(2, join),
		"union":    union,
		"distinct": of(1, distinct),
		"group":    of(1, group),
	}
}

// of is a step that takes so many sets, and no others.
func of(sets int, come step) step {
	return func(p api.Plan, in ...zset.Set) (zset.Set, api.Errno) {
		if len(in) != sets {
			return nil, api.ErrArg
		}
		return come(p, in...)
	}
}

// filter is the rows for which the expression holds.
func filter(p api.Plan, in ...zset.Set) (zset.Set, api.Errno) {
	var l []api.Item
	for _, x := range in[0] {
		is, fault := holds(p, x.Row)
		if fault != api.OK {
			return nil, fault
		}
		if is {
			l = append(l, x)
		}
	}
	return zset.Of(l...)
}

// holds tells whether a filter's expression holds for a row.
func holds(p api.Plan, r api.Row) (bool, api.Errno) {
	for _, e := range p.Exprs {
		if is, fault := calc.Holds(e, p.Kids[0].Cols, r); !is || fault != api.OK {
			return false, fault
		}
	}
	return true, api.OK
}

// project is the sum of what becomes of the rows.
func project(p api.Plan, in ...zset.Set) (zset.Set, api.Errno) {
	l := make([]api.Item, len(in[0]))
	for i, x := range in[0] {
		r, fault := values(p, x.Row)
		if fault != api.OK {
			return nil, fault
		}
		l[i] = api.Item{Row: r, Weight: x.Weight}
	}
	return zset.Of(l...)
}

// values are what a project's expressions come to for a row.
func values(p api.Plan, r api.Row) (api.Row, api.Errno) {
	l := make(api.Row, len(p.Exprs))
	for i, e := range p.Exprs {
		v, fault := calc.Value(e, p.Kids[0].Cols, r)
		if fault != api.OK {
			return nil, fault
		}
		l[i] = v
	}
	return l, api.OK
}

// join is each two rows that have the same at all pairs, one behind the other.
func join(p api.Plan, in ...zset.Set) (zset.Set, api.Errno) {
	left, right := make([]int, len(p.On)), make([]int, len(p.On))
	for i, on := range p.On {
		left[i], right[i] = on.Left, on.Right
	}
	partners, fault := byKey(in[1], right...)
	if fault != api.OK {
		return nil, fault
	}
	var l []api.Item
	for _, x := range in[0] {
		key, fault := row.Pick(x.Row, left...)
		if fault != api.OK {
			return nil, fault
		}
		// Null is the same as nothing, not even as null.
		if slices.ContainsFunc(key, isNull) {
			continue
		}
		pairs, fault := pairs(x, partners[row.Key(key)])
		if fault != api.OK {
			return nil, fault
		}
		l = append(l, pairs...)
	}
	return zset.Of(l...)
}

// pairs are an item with each of some partners.
func pairs(x api.Item, partners zset.Set) ([]api.Item, api.Errno) {
	l := make([]api.Item, len(partners))
	for i, y := range partners {
		weight, fault := wide.Times(x.Weight, y.Weight).Int()
		if fault != api.OK {
			return nil, fault
		}
		l[i] = api.Item{Row: row.Join(x.Row, y.Row), Weight: weight}
	}
	return l, api.OK
}

// union is the sum of two sets, or more.
func union(_ api.Plan, in ...zset.Set) (zset.Set, api.Errno) {
	if len(in) < 2 {
		return nil, api.ErrArg
	}
	return zset.Add(in...)
}

// distinct is the rows, each once.
func distinct(_ api.Plan, in ...zset.Set) (zset.Set, api.Errno) {
	return in[0].Distinct(), api.OK
}

// byKey is a set's items by the bytes of their values at some places; the items of each are in order.
func byKey(s zset.Set, at ...int) (map[string]zset.Set, api.Errno) {
	parts := map[string]zset.Set{}
	for _, x := range s {
		key, fault := row.Pick(x.Row, at...)
		if fault != api.OK {
			return nil, fault
		}
		k := row.Key(key)
		parts[k] = append(parts[k], x)
	}
	return parts, api.OK
}

// isNull tells whether a value is null.
func isNull(v api.Value) bool {
	return v.Kind == api.Null
}
