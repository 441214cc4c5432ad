package eval

import (
	"iter"
	"maps"
	"slices"

	"instar/api"
	"instar/row"
	"instar/wide"
	"instar/zset"
)

// tell is what an Agg tells of a key's rows, by the column at a place.
type tell func(rows zset.Set, at int) (api.Value, api.Errno)

// tells are those of all Aggs.
func tells() map[string]tell {
	return map[string]tell{"count": count, "sum": sum, "min": least, "max": most}
}

// group is each key that is there, with what the Aggs tell of its rows.
func group(p api.Plan, in ...zset.Set) (zset.Set, api.Errno) {
	parts, fault := byKey(in[0], p.By...)
	if fault != api.OK {
		return nil, fault
	}
	var l []api.Item
	// Keys' bytes are in order as the keys are.
	for _, k := range slices.Sorted(maps.Keys(parts)) {
		rows := parts[k]
		if together(rows).Cmp(wide.Of(0)) <= 0 {
			continue
		}
		r, fault := told(p, rows)
		if fault != api.OK {
			return nil, fault
		}
		l = append(l, api.Item{Row: r, Weight: 1})
	}
	return zset.Of(l...)
}

// told is a key, of which there is a row at least, and what each Agg tells of its rows.
func told(p api.Plan, rows zset.Set) (api.Row, api.Errno) {
	key, fault := row.Pick(rows[0].Row, p.By...)
	if fault != api.OK {
		return nil, fault
	}
	all := tells()
	for _, a := range p.Aggs {
		tell := all[a.Fn]
		if tell == nil {
			return nil, api.ErrArg
		}
		v, fault := tell(rows, a.At)
		if fault != api.OK {
			return nil, fault
		}
		key = append(key, v)
	}
	return key, api.OK
}

// together is all rows' weights, which may be outside 64 bits: that matters to a count alone.
func together(rows zset.Set) wide.Wide {
	all := wide.Of(0)
	for _, x := range rows {
		all = all.Add(wide.Of(x.Weight))
	}
	return all
}

// count is all rows' weights, whatever stands in them.
func count(rows zset.Set, _ int) (api.Value, api.Errno) {
	return number(together(rows))
}

// sum is all values, each times its weight; null, if none is there.
func sum(rows zset.Set, at int) (api.Value, api.Errno) {
	l, fault := column(rows, at)
	// A value with a weight below 0 makes no sum, but is taken off one.
	if fault != api.OK || len(l.Distinct()) == 0 {
		return api.Value{}, fault
	}
	all := wide.Of(0)
	for _, x := range l {
		all = all.Add(wide.Times(x.Row[0].N, x.Weight))
	}
	return number(all)
}

// least is the least value that is there.
func least(rows zset.Set, at int) (api.Value, api.Errno) {
	l, fault := column(rows, at)
	return first(slices.All(l.Distinct())), fault
}

// most is the greatest value that is there.
func most(rows zset.Set, at int) (api.Value, api.Errno) {
	l, fault := column(rows, at)
	return first(slices.Backward(l.Distinct())), fault
}

// column is the values at a place that are not null, as rows of one value: each with its weights taken together.
func column(rows zset.Set, at int) (zset.Set, api.Errno) {
	var l []api.Item
	for _, x := range rows {
		v, fault := row.Pick(x.Row, at)
		if fault != api.OK {
			return nil, fault
		}
		if !slices.ContainsFunc(v, isNull) {
			l = append(l, api.Item{Row: v, Weight: x.Weight})
		}
	}
	return zset.Of(l...)
}

// first is the first value; null, if there is none.
func first(l iter.Seq2[int, api.Item]) api.Value {
	for _, x := range l {
		return x.Row[0]
	}
	return api.Value{}
}

// number is a wide number's value.
func number(w wide.Wide) (api.Value, api.Errno) {
	n, fault := w.Int()
	if fault != api.OK {
		return api.Value{}, fault
	}
	return api.Value{Kind: api.Int64, N: n}, api.OK
}
