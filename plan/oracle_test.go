package plan_test

import (
	"reflect"
	"slices"
	"testing"

	"instar/api"
	"instar/calc"
	"instar/expr"
	"instar/plan"
	"instar/query"
	"instar/schema"
)

// The oracle tells all that is wrong with a query, in the chapter's order, and takes the first; what it tells as columns hangs on no plan.

// inner are the queries in a node.
func inner(n api.Node) []api.Node {
	most := map[string]int{"filter": 1, "project": 1, "distinct": 1, "group": 1, "join": 2, "union": len(n.Kids)}[n.Op]
	return n.Kids[:min(most, len(n.Kids))]
}

// queryNode tells whether a node is a query's: if layer 10 shows it, with any queries and expressions in it, as more than `?`.
func queryNode(n api.Node) bool {
	l := slices.Clone(n.Kids)
	for i := range inner(n) {
		l[i] = from("t")
	}
	return query.Show(api.Node{Op: n.Op, Text: n.Text, Kids: l}) != "?"
}

// place is that of the last column of a name; columns of a schema have but one.
func place(cols []api.Column, name string) (int, bool) {
	for i := len(cols) - 1; i >= 0; i-- {
		if cols[i].Name == name {
			return i, true
		}
	}
	return 0, false
}

// told is all that is wrong with a query, as far as it can be told, its columns, and its text.
func told(n api.Node, l []api.Table) (all []api.Errno, cols []api.Column, text string) {
	var kids [][]api.Column
	var of string
	for i, k := range inner(n) {
		e, c, s := told(k, l)
		all, kids = append(all, e...), append(kids, c)
		if i > 0 {
			of += ", "
		}
		of += s
	}
	if len(all) > 0 {
		return all, nil, ""
	}
	if !queryNode(n) {
		return []api.Errno{api.ErrArg}, nil, ""
	}
	if len(query.Leaves(n)) > 4 {
		return []api.Errno{api.ErrFull}, nil, ""
	}
	e, cols, besides := own(n, l, kids...)
	text = n.Op + "[" + besides + "](" + of + ")"
	if n.Op == "from" {
		text = n.Text
	}
	return append(e, last(cols)...), cols, text
}

// last is what is wrong with columns, at last of all.
func last(cols []api.Column) (all []api.Errno) {
	for _, c := range cols {
		if !schema.Name(c.Name) {
			all = append(all, api.ErrArg)
		}
	}
	for i := range cols {
		for j := range i {
			if cols[i].Name == cols[j].Name {
				all = append(all, api.ErrTwice)
			}
		}
	}
	if len(cols) > 12 {
		all = append(all, api.ErrFull)
	}
	return all
}

// own is what is wrong with a query's node itself, its columns, and what its plan has besides.
func own(n api.Node, l []api.Table, kids ...[]api.Column) (all []api.Errno, cols []api.Column, besides string) {
	bad := func(is bool, e api.Errno) {
		if is {
			all = append(all, e)
		}
	}
	put := func(s string) {
		if besides != "" {
			besides += "; "
		}
		besides += s
	}
	if len(kids) > 0 {
		cols = kids[0]
	}
	switch n.Op {
	case "from":
		i := slices.IndexFunc(l, func(t api.Table) bool { return t.Name == n.Text })
		bad(i < 0, api.ErrName)
		if i >= 0 {
			cols = l[i].Cols
		}
	case "filter":
		k, e := calc.Type(n.Kids[1], cols)
		bad(e != api.OK, e)
		bad(k != api.Bool && k != api.Null, api.ErrType)
		put(expr.Show(n.Kids[1]))
	case "project":
		cols = nil
		for _, k := range n.Kids[1:] {
			kind, e := calc.Type(k.Kids[0], kids[0])
			bad(e != api.OK, e)
			bad(kind == api.Null, api.ErrType)
			put(expr.Show(k.Kids[0]))
			cols = append(cols, api.Column{Name: k.Text, Kind: kind})
		}
	case "join":
		for _, k := range n.Kids[2:] {
			i, left := place(kids[0], k.Text)
			j, right := place(kids[1], k.Kids[0].Text)
			bad(!left || !right, api.ErrName)
			bad(left && right && kids[0][i].Kind != kids[1][j].Kind, api.ErrType)
			put(string(rune('0'+i)) + "=" + string(rune('0'+j)))
		}
		cols = slices.Concat(kids[0], kids[1])
	case "union":
		for _, k := range kids {
			bad(len(k) != len(cols), api.ErrType)
			for i := range min(len(k), len(cols)) {
				bad(k[i].Kind != cols[i].Kind, api.ErrType)
			}
		}
	case "group":
		e, c, s := grouped(n, cols)
		all, cols, besides = append(all, e...), c, s
	}
	return all, cols, besides
}

// grouped is the same of a group.
func grouped(n api.Node, of []api.Column) (all []api.Errno, cols []api.Column, besides string) {
	for _, k := range n.Kids[1].Kids {
		i, is := place(of, k.Text)
		if !is {
			all = append(all, api.ErrName)
			continue
		}
		cols = append(cols, of[i])
		if besides != "" {
			besides += " "
		}
		besides += string(rune('0' + i))
	}
	for _, k := range n.Kids[2:] {
		fn, kind, at := k.Kids[0].Op, api.Int64, 0
		if fn != "count" {
			i, is := place(of, k.Kids[0].Text)
			if !is {
				all = append(all, api.ErrName)
				continue
			}
			at, kind = i, of[i].Kind
		}
		if fn == "sum" {
			if kind != api.Int32 && kind != api.Int64 {
				all = append(all, api.ErrType)
			}
			kind = api.Int64
		}
		if besides != "" {
			besides += "; "
		}
		besides += fn + " " + string(rune('0'+at))
		cols = append(cols, api.Column{Name: k.Text, Kind: kind})
	}
	return all, cols, besides
}

// agrees holds what Of answers of a query against the oracle; it tells the error.
func agrees(t *testing.T, n api.Node, l []api.Table) api.Errno {
	t.Helper()
	all, cols, text := told(n, l)
	p, e := plan.Of(n, l...)
	switch {
	case len(all) > 0:
		if e != all[0] || !same(p, api.Plan{}) {
			t.Fatalf("Of(%v): %v, %d, not %d", n, p, e, all[0])
		}
	case e != api.OK || plan.Show(p) != text || !slices.Equal(p.Cols, numbered(cols...)):
		t.Fatalf("Of(%v): %s, %v, %d, not %s, %v", n, plan.Show(p), p.Cols, e, text, cols)
	default:
		if slices.ContainsFunc(l, func(o api.Table) bool { return !schema.Schema(o.Cols).Right() }) {
			placed(t, p)
		} else {
			sound(t, p)
		}
		names := query.Leaves(n)
		slices.Sort(names)
		if !slices.Equal(plan.Tables(p), slices.Compact(names)) {
			t.Fatalf("Tables of %v: %v", n, plan.Tables(p))
		}
	}
	return e
}

// around are the queries, right and wrong, that stand about some others.
func around(l []api.Node) []api.Node {
	expressions := list(col("a"), col("e"), of("null"), of("is null", col("a")), of("+", col("a"), col("n")), of("and", col("a"), col("z")), of("not", from("t")), of("x"))
	pairs := list(on("a", "a"), on("a", "e"), on("e", "a"), on("n", "n"), on("f", "b"), on("z", "a"), of("x"))
	bys := list(by(), by("a"), by("b", "f"), by("e", "e"), by("z"), of("x"))
	calls := list(count("n"), agg("a", "sum", "a"), agg("e", "max", "e"), agg("f", "min", "b"), agg("not", "sum", "f"), agg("n", "min", "z"), of("x"))
	items := func(e api.Node) []api.Node { return list(item("a", e), item("n", e), item("is", e)) }
	var all []api.Node
	for _, q := range l {
		all = append(all, of("distinct", q), of("distinct", q, q), of("y", q), named("union", "x", q, q), of("join", q), of("union", q), of("group", q), of("project", q), of("filter", q))
		for _, e := range expressions {
			all = append(all, of("filter", q, e), of("filter", q, e, e))
			for _, i := range items(e) {
				all = append(all, of("project", q, i), of("project", q, i, item("a", col("a"))), of("project", q, item("e", col("e")), i))
			}
		}
		for _, p := range bys {
			for _, c := range calls {
				all = append(all, of("group", q, p, c), of("group", q, p, count("e"), c))
			}
		}
		for _, o := range l {
			all = append(all, of("union", q, o), of("union", q, o, q))
			for _, p := range pairs {
				all = append(all, of("join", q, o, p), of("join", q, o, p, on("a", "e")))
			}
		}
	}
	return all
}

// small holds what is told of all small queries of some parts, right and wrong, against the oracle; it tells how often each error came.
func small(t *testing.T, l []api.Table) map[api.Errno]int {
	t.Helper()
	first := list(from("t"), from("u"), from("z"), named("from", "t", from("t")))
	second := around(first)
	seen := map[api.Errno]int{}
	ask := func(l2 []api.Node) {
		for _, n := range l2 {
			seen[agrees(t, n, l)]++
		}
	}
	ask(first)
	ask(second)
	// Those that are right, and one of each error, stand in others again.
	var some []api.Node
	known := map[api.Errno]bool{}
	rights := 0
	for _, n := range second {
		_, e := plan.Of(n, l...)
		if e == api.OK {
			rights++
		}
		if e == api.OK && rights%4 == 0 || e != api.OK && !known[e] {
			some = append(some, n)
		}
		known[e] = true
	}
	ask(around(append(some, of("union", from("u"), from("u"), from("u")))))
	return seen
}

// P14.1, P14.2: Of, Show and Tables, held against the oracle, over tables whose columns are schemas.
func TestAll(t *testing.T) {
	seen := small(t, []api.Table{tables()[0], tables()[1], {Name: "t", Cols: columns(3)}})
	for _, e := range []api.Errno{api.OK, api.ErrArg, api.ErrName, api.ErrType, api.ErrTwice, api.ErrFull} {
		if seen[e] < 50 {
			t.Errorf("only %d queries with the error %d", seen[e], e)
		}
	}
	t.Logf("%v", seen)
}

// P14.1: the same over tables whose columns are no schema: without columns, of kinds that no column has, of names that may not be, that two have, and of more than 12.
func TestAllOfOthers(t *testing.T) {
	none, five, below := api.Null, api.Kind(5), api.Kind(-1)
	u := tables()[1].Cols
	for _, l := range [][2][]api.Column{
		{nil, u}, {nil, nil}, {columns(4), nil}, {[]api.Column{}, []api.Column{column(0, "e", five)}},
		{[]api.Column{column(1, "a", none), column(1, "b", five), column(0, "c", below)}, u},
		{[]api.Column{column(1, "a", five), column(2, "b", none), column(3, "n", five)}, []api.Column{column(-1, "e", five), column(-1, "f", none)}},
		{[]api.Column{column(1, "a", api.Bool), column(2, "b", below)}, []api.Column{column(3, "e", api.Bool), column(4, "f", below)}},
		{columns(4), []api.Column{column(1, "e", none), column(2, "", five)}}, {columns(13), u}, {columns(2), append(slices.Clone(u), u...)},
	} {
		seen := small(t, []api.Table{{Name: "t", Cols: l[0]}, {Name: "u", Cols: l[1]}})
		if seen[api.OK] < 25 || len(seen) < 5 {
			t.Errorf("too few queries of each error over %v: %v", l, seen)
		}
	}
}

// memory is where the lists of a thing lie, each from its first byte to the one behind its last.
func memory(v reflect.Value) (all [][2]uintptr) {
	switch v.Kind() {
	case reflect.Slice:
		if v.Cap() > 0 {
			all = append(all, [2]uintptr{v.Pointer(), v.Pointer() + uintptr(v.Cap())*v.Type().Elem().Size()})
		}
		for i := range v.Len() {
			all = append(all, memory(v.Index(i))...)
		}
	case reflect.Struct:
		for i := range v.NumField() {
			all = append(all, memory(v.Field(i))...)
		}
	}
	return all
}

// roomy is a node, or tables, in lists with room behind their length; in that stands what may be neither read nor written.
func roomy(n api.Node) api.Node {
	var l []api.Node
	for _, k := range n.Kids {
		l = append(l, roomy(k))
	}
	l = append(l, item("room", from("room")), of("room"))
	n.Kids = l[:len(l)-2]
	return n
}

// P14.1, rule 4: nothing that is handed in is written; what is told is memory of its own, each list for itself.
func TestNothingShared(t *testing.T) {
	for _, s := range []string{
		"t", "distinct(distinct(t))", "filter(filter(t, a > 1 and not d), b = 'x' or d)", "project(filter(t, a + 1 < c), z = a * (a - 1), y = b, x = d)", "join(t, join(u, x, e = p), b = f, a = e)",
		"union(u, u, distinct(u), filter(u, e is null))", "group(group(t, by a b, n = count(), m = sum(c)), by b n, l = max(m), k = min(n))",
	} {
		n, l := roomy(parse(t, s)), append(tables(), api.Table{Name: "room"})[:5]
		for i := range l {
			l[i].Cols = append(l[i].Cols, column(7, "room", api.Bool))[:len(l[i].Cols)]
		}
		// as is all that was handed in, with what stands behind its length.
		as := func() string {
			text := query.Show(n)
			var walk func(k api.Node)
			walk = func(k api.Node) {
				text += k.Op + "|" + k.Text + "|"
				for _, o := range k.Kids[:min(cap(k.Kids), len(k.Kids)+2)] {
					walk(o)
				}
			}
			walk(n)
			for _, o := range l[:6] {
				text += o.Name + ":" + schema.Show(o.Cols[:min(cap(o.Cols), len(o.Cols)+1)]) + ";"
			}
			return text
		}
		before := as()
		p, e := plan.Of(n, l...)
		shown := plan.Show(p)
		if plan.Tables(p); e != api.OK || as() != before {
			t.Errorf("Of(%s): %d, what was handed in is another thing then", s, e)
		}
		places := slices.Concat(memory(reflect.ValueOf(n)), memory(reflect.ValueOf(l)), memory(reflect.ValueOf(p)))
		for i, a := range places {
			for _, b := range places[:i] {
				if a[0] < b[1] && b[0] < a[1] {
					t.Errorf("Of(%s): two lists share memory", s)
				}
			}
		}
		names := plan.Tables(p)
		for i := range names {
			names[i] = "spoiled"
		}
		spoil(n)
		if plan.Show(p) != shown || slices.Contains(plan.Tables(p), "spoiled") {
			t.Errorf("Of(%s): the plan is another one, once the query is", s)
		}
	}
}

// spoil makes all parts of a node others.
func spoil(n api.Node) {
	for i := range n.Kids {
		spoil(n.Kids[i])
		n.Kids[i] = of("spoiled")
	}
}

// P14.1, rule 4: a plan that was handed in stays as it was, and its lists are its own.
func TestPlanKept(t *testing.T) {
	p := api.Plan{Op: "union", Kids: []api.Plan{{Op: "from", Table: "b"}, {Op: "from", Table: "a"}, {Op: "from", Table: "b"}, {Op: "from", Table: "room"}}[:3], By: []int{2, 1, 9}[:2], Aggs: []api.Agg{{Fn: "min", At: 2}, {Fn: "room"}}[:1], On: []api.Pair{{}, {Left: 9}}[:1], Exprs: list(col("a"), col("room"))[:1]}
	for range 2 {
		if s, l := plan.Show(p), plan.Tables(p); s != "union[a; 0=0; 2 1; min 2](b, a, b)" || !slices.Equal(l, []string{"a", "b"}) {
			t.Errorf("of a plan made by hand: %q, %v", s, l)
		}
	}
	if p.Kids[:4][3].Table != "room" || p.By[:3][2] != 9 || p.Exprs[:2][1].Text != "room" || p.On[:2][1].Left != 9 || p.Aggs[:2][1].Fn != "room" {
		t.Errorf("what stood behind a plan's lists is another thing then: %v", p)
	}
}
