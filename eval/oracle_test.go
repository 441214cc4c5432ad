package eval_test

import (
	"math/big"
	"slices"
	"testing"

	"instar/api"
	"instar/calc"
	"instar/eval"
	"instar/row"
	"instar/value"
	"instar/zset"
)

// The oracle tells what a plan comes to in numbers without bounds, by going through all rows for each row, or value, again.

// entry is a row, and how often it is there.
type entry struct {
	row    api.Row
	weight *big.Int
}

// put adds a row to some that are there.
func put(l []entry, r api.Row, weight *big.Int) []entry {
	for i := range l {
		if row.Same(l[i].row, r) {
			l[i].weight = new(big.Int).Add(l[i].weight, weight)
			return l
		}
	}
	return append(l, entry{r, weight})
}

// summed is rows in order, without those that are not there; ErrOver, if a weight is no number of 64 bits.
func summed(l []entry) ([]entry, api.Errno) {
	l = slices.DeleteFunc(l, func(x entry) bool { return x.weight.Sign() == 0 })
	if slices.ContainsFunc(l, func(x entry) bool { return !x.weight.IsInt64() }) {
		return nil, api.ErrOver
	}
	slices.SortFunc(l, func(x, y entry) int { return row.Compare(x.row, y.row) })
	return l, api.OK
}

// told is what a plan comes to.
func told(p api.Plan, db []api.Data) ([]entry, api.Errno) {
	var in [][]entry
	for _, k := range p.Kids {
		s, e := told(k, db)
		if e != api.OK {
			return nil, e
		}
		in = append(in, s)
	}
	var out []entry
	switch p.Op {
	case "from":
		return table(p, db)
	case "filter":
		for _, x := range in[0] {
			v, e := calc.Value(p.Exprs[0], p.Cols, x.row)
			if e != api.OK {
				return nil, e
			}
			if v.N == 1 {
				out = put(out, x.row, x.weight)
			}
		}
	case "project":
		for _, x := range in[0] {
			var r api.Row
			for _, n := range p.Exprs {
				v, e := calc.Value(n, p.Kids[0].Cols, x.row)
				if e != api.OK {
					return nil, e
				}
				r = append(r, v)
			}
			out = put(out, r, x.weight)
		}
	case "join":
		for _, x := range in[0] {
			for _, y := range in[1] {
				if !slices.ContainsFunc(p.On, func(o api.Pair) bool { return x.row[o.Left].Kind == 0 || x.row[o.Left] != y.row[o.Right] }) {
					out = put(out, slices.Concat(x.row, y.row), new(big.Int).Mul(x.weight, y.weight))
				}
			}
		}
	case "union", "distinct":
		for _, x := range slices.Concat(in...) {
			out = put(out, x.row, x.weight)
		}
		if p.Op == "distinct" {
			out = slices.DeleteFunc(out, func(x entry) bool { return x.weight.Sign() < 0 })
			for i := range out {
				out[i].weight = big.NewInt(1)
			}
		}
	case "group":
		return keys(p, in[0])
	}
	return summed(out)
}

// table is what a table has.
func table(p api.Plan, db []api.Data) ([]entry, api.Errno) {
	for _, d := range db {
		if d.Table != p.Table {
			continue
		}
		var out []entry
		for _, x := range d.Items {
			out = put(out, x.Row, big.NewInt(x.Weight))
		}
		for _, x := range out {
			for i, v := range x.row {
				if len(x.row) != len(p.Cols) || v.Kind != api.Null && v.Kind != p.Cols[i].Kind || !value.Right(v) {
					return nil, api.ErrRow
				}
			}
		}
		return summed(out)
	}
	return nil, api.OK
}

// keys is what a group comes to.
func keys(p api.Plan, in []entry) ([]entry, api.Errno) {
	key := func(x entry) (k api.Row) {
		for _, i := range p.By {
			k = append(k, x.row[i])
		}
		return k
	}
	var all, out []entry
	for _, x := range in {
		all = put(all, key(x), x.weight)
	}
	slices.SortFunc(all, func(x, y entry) int { return row.Compare(x.row, y.row) })
	for _, k := range all {
		if k.weight.Sign() <= 0 {
			continue
		}
		r := slices.Clone(k.row)
		for _, a := range p.Aggs {
			var l []entry
			for _, x := range in {
				if v := x.row[a.At]; row.Same(key(x), k.row) && v.Kind != api.Null {
					l = put(l, api.Row{v}, x.weight)
				}
			}
			v, e := agg(a.Fn, k.weight, l)
			if e != api.OK {
				return nil, e
			}
			r = append(r, v)
		}
		out = append(out, entry{r, big.NewInt(1)})
	}
	return out, api.OK
}

// agg is an Agg's value.
func agg(fn string, count *big.Int, l []entry) (api.Value, api.Errno) {
	number := func(n *big.Int) (api.Value, api.Errno) {
		if !n.IsInt64() {
			return api.Value{}, api.ErrOver
		}
		return api.Value{Kind: api.Int64, N: n.Int64()}, api.OK
	}
	if fn == "count" {
		return number(count)
	}
	sum, there := new(big.Int), []api.Value(nil)
	for _, x := range l {
		if !x.weight.IsInt64() {
			return api.Value{}, api.ErrOver
		}
		if x.weight.Sign() > 0 {
			there = append(there, x.row[0])
		}
		sum.Add(sum, new(big.Int).Mul(big.NewInt(x.row[0].N), x.weight))
	}
	switch {
	case len(there) == 0:
		return api.Value{}, api.OK
	case fn == "sum":
		return number(sum)
	case fn == "min":
		return slices.MinFunc(there, value.Compare), api.OK
	}
	return slices.MaxFunc(there, value.Compare), api.OK
}

// agrees holds what a plan comes to against the oracle; it tells the error.
func agrees(t *testing.T, s string, p api.Plan, db ...api.Data) api.Errno {
	t.Helper()
	l, want := told(p, db)
	var items zset.Set
	for _, x := range l {
		items = append(items, api.Item{Row: x.row, Weight: x.weight.Int64()})
	}
	for _, of := range []func(api.Plan, ...api.Data) (zset.Set, api.Errno){eval.Of, stepped} {
		out, e := of(p, db...)
		if e != want || !zset.Same(out, items) || want != api.OK && out != nil {
			t.Fatalf("%s of %v: %s, %d, not %s, %d", s, db, show(out), e, show(items), want)
		}
	}
	return want
}

// asked are queries of each kind, and queries in queries.
func asked() []string {
	l := []string{"n", "t", "join(t, n, b = k)", "join(t, project(t, x = a, y = b), a = x)", "join(t, project(t, x = a, y = b), b = y, a = x)", "join(project(n, x = k), n, x = k)", "union(n, project(t, z = b), n)", "distinct(union(n, project(t, z = b)))",
		"group(join(t, n, b = k), by a, c = count(), s = sum(k), l = min(a), m = max(b))", "join(group(t, by a, c = count()), n, c = k)", "group(group(t, by b, c = count()), by c, d = count(), s = sum(b))"}
	for _, e := range []string{"true", "false", "null", "a = 1", "b > 0", "not b > 0", "a is null or b = 5", "b + 1 > 0", "a = b", "b * a < 0 and a = 1"} {
		l = append(l, "filter(t, "+e+")", "distinct(filter(t, "+e+"))", "filter(union(t, t), "+e+")", "project(t, z = "+e+" or true)")
	}
	for _, e := range []string{"b", "a", "b + 1", "a * b", "a - b", "1", "b is null"} {
		l = append(l, "project(t, z = "+e+")", "project(t, y = a, z = "+e+")", "distinct(project(t, z = "+e+"))", "union(project(t, z = "+e+"), project(t, z = "+e+"))", "group(project(t, z = "+e+"), by z, c = count())")
	}
	for _, by := range []string{"", "by a, ", "by b, ", "by b a, "} {
		for _, a := range []string{"c = count()", "s = sum(b)", "l = min(b)", "m = max(b)", "s = sum(a), c = count()", "m = max(a), l = min(a)", "c = count(), s = sum(b), l = min(b), m = max(b)"} {
			l = append(l, "group(t, "+by+a+")")
		}
	}
	return l
}

// P15.1, V4: what all these come to, over all data of up to three items of some that have edges' values and weights, held against the oracle.
func TestAll(t *testing.T) {
	rows := []api.Item{
		item(1, 1, int64(5)), item(-1, 1, int64(5)), item(2, 1, nil), item(1, nil, nil), item(3, 2, int64(-7)), item(-2, 2, int64(5)),
		item(top, 1, int64(5)), item(bottom, 2, int64(1)), item(1, 1, int64(top)), item(2, nil, int64(bottom)), item(top, 2, int64(1)),
	}
	var l [][]api.Item
	for i, x := range rows {
		l = append(l, []api.Item{x})
		for j, y := range rows[i:] {
			l = append(l, []api.Item{y, x})
			for k := i + j; k < len(rows); k++ {
				l = append(l, []api.Item{y, rows[k], x})
			}
		}
	}
	n := [][]api.Item{nil, {item(1, int64(5)), item(-2, int64(1)), item(4, nil)}, {item(top, int64(5)), item(2, int64(1))}, {item(1, int64(5)), item(1, 5)}}
	seen := map[api.Errno]int{}
	for _, s := range asked() {
		p := planned(t, s)
		for i, items := range l {
			seen[agrees(t, s, p, data("t", items...), data("n", n[i%len(n)]...))]++
			if i%100 == 0 {
				seen[agrees(t, s, p, data("n", n[2]...), data("t", append(items, item(1, 1, 1))...))]++
			}
		}
	}
	for _, e := range []api.Errno{api.OK, api.ErrOver, api.ErrRow} {
		if seen[e] < 100 {
			t.Errorf("only %d with the error %d", seen[e], e)
		}
	}
	t.Logf("%v", seen)
}
