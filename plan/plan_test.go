package plan_test

import (
	"slices"
	"strings"
	"testing"

	"instar/api"
	"instar/expr"
	"instar/plan"
	"instar/query"
	"instar/schema"
)

// Short forms of nodes, and of columns.
func of(op string, kids ...api.Node) api.Node { return api.Node{Op: op, Kids: kids} }
func named(op, text string, kids ...api.Node) api.Node {
	return api.Node{Op: op, Text: text, Kids: kids}
}
func from(s string) api.Node             { return named("from", s) }
func col(s string) api.Node              { return named("col", s) }
func item(s string, n api.Node) api.Node { return named("item", s, n) }
func on(s, with string) api.Node         { return named("on", s, col(with)) }
func agg(s, fn, column string) api.Node  { return named("agg", s, named(fn, column)) }
func count(s string) api.Node            { return agg(s, "count", "") }
func by(l ...string) api.Node {
	n := of("by")
	for _, s := range l {
		n.Kids = append(n.Kids, col(s))
	}
	return n
}
func joined(op string, l ...[]api.Node) api.Node {
	return api.Node{Op: op, Kids: slices.Concat(l...)}
}
func list(l ...api.Node) []api.Node { return l }
func column(id int, name string, k api.Kind) api.Column {
	return api.Column{ID: id, Name: name, Kind: k}
}
func times(s string, n int) string { return strings.Repeat(s, n) }

// columns are n columns, a, b, and so on, of all kinds, whose IDs are in no order.
func columns(n int) []api.Column {
	kinds := []api.Kind{api.Int32, api.Text, api.Int64, api.Bool}
	var l []api.Column
	for i := range n {
		l = append(l, column(100-3*i, string(rune('a'+i)), kinds[i%4]))
	}
	return l
}

// tables are tables of which most tests ask: in x stands nothing by the name of a column of others.
func tables() []api.Table {
	return []api.Table{
		{Name: "t", Cols: columns(4)},
		{Name: "u", Cols: []api.Column{column(9, "e", api.Int32), column(2, "f", api.Text)}},
		{Name: "x", Cols: []api.Column{column(5, "p", api.Int32), column(4, "q", api.Text), column(3, "r", api.Int64), column(1, "s", api.Bool)}},
		{Name: "t", Cols: []api.Column{column(1, "late", api.Bool)}},
		{Name: "w", Cols: columns(12)},
	}
}

// parse is a text's node.
func parse(t *testing.T, s string) api.Node {
	t.Helper()
	n, at, e := query.Parse(s)
	if e != api.OK {
		t.Fatalf("Parse(%q): %d, %d", s, at, e)
	}
	return n
}

// numbered are columns with the IDs that a plan's have.
func numbered(l ...api.Column) []api.Column {
	l = slices.Clone(l)
	for i := range l {
		l[i].ID = i + 1
	}
	return l
}

// same tells whether two plans are one.
func same(p, q api.Plan) bool {
	return p.Op == q.Op && p.Table == q.Table && slices.Equal(p.Cols, q.Cols) && slices.EqualFunc(p.Kids, q.Kids, same) &&
		slices.EqualFunc(p.Exprs, q.Exprs, expr.Same) && slices.Equal(p.On, q.On) && slices.Equal(p.By, q.By) && slices.Equal(p.Aggs, q.Aggs)
}

// is holds a query's plan against the one that it should have.
func is(t *testing.T, n api.Node, want api.Plan) {
	t.Helper()
	if p, e := plan.Of(n, tables()...); e != api.OK || !same(p, want) {
		t.Errorf("Of(%s): %v, %d, not %v", query.Show(n), p, e, want)
	}
}

// wrong holds what is wrong with a query against what should be.
func wrong(t *testing.T, n api.Node, want api.Errno) {
	t.Helper()
	if p, e := plan.Of(n, tables()...); e != want || !same(p, api.Plan{}) {
		s := "a deep one: " + n.Op
		if expr.Deep(n) < 50 {
			s = query.Show(n)
		}
		t.Errorf("Of(%s): %v, %d, not %d", s, p, e, want)
	}
}

// sound holds a plan, and those in it, against P14.2: its columns are a schema with the IDs 1, 2, and so on; each place is one of its Kids' columns.
func sound(t *testing.T, p api.Plan) {
	t.Helper()
	placed(t, p)
	schemas(t, p)
}

// schemas tells of all plans in a plan whose columns are no schema.
func schemas(t *testing.T, p api.Plan) {
	t.Helper()
	if !schema.Schema(p.Cols).Right() {
		t.Errorf("the columns of %s are no schema: %v", plan.Show(p), p.Cols)
	}
	for _, k := range p.Kids {
		schemas(t, k)
	}
}

// placed holds a plan, and those in it, against what P14.2 says of IDs and of places.
func placed(t *testing.T, p api.Plan) {
	t.Helper()
	if !slices.Equal(p.Cols, numbered(p.Cols...)) {
		t.Errorf("the columns of %s have other IDs: %v", plan.Show(p), p.Cols)
	}
	place := func(at, kid int) bool { return at >= 0 && kid < len(p.Kids) && at < len(p.Kids[kid].Cols) }
	for _, o := range p.On {
		if !place(o.Left, 0) || !place(o.Right, 1) {
			t.Errorf("no places in %s: %v", plan.Show(p), o)
		}
	}
	for _, at := range p.By {
		if !place(at, 0) {
			t.Errorf("no place in %s: %d", plan.Show(p), at)
		}
	}
	for _, a := range p.Aggs {
		if a.Fn != "count" && !place(a.At, 0) || a.Fn == "count" && a.At != 0 {
			t.Errorf("no place in %s: %v", plan.Show(p), a)
		}
	}
	for _, k := range p.Kids {
		placed(t, k)
	}
}

// leaf is the plan of a table of tables.
func leaf(at int) api.Plan {
	t := tables()[at]
	return api.Plan{Op: "from", Table: t.Name, Cols: numbered(t.Cols...)}
}

// P14.1, L2: Of a query of each Op: the plan has what the chapter's table says, and nothing else.
func TestForms(t *testing.T) {
	a, b, c, d := column(1, "a", api.Int32), column(2, "b", api.Text), column(3, "c", api.Int64), column(4, "d", api.Bool)
	all := []api.Column{a, b, c, d}
	above := of(">", col("a"), named("num", "1"))
	sum := of("+", col("c"), of("neg", col("a")))
	is(t, parse(t, "t"), api.Plan{Op: "from", Table: "t", Cols: all})
	is(t, parse(t, "filter(t, a > 1)"), api.Plan{Op: "filter", Cols: all, Kids: []api.Plan{leaf(0)}, Exprs: list(above)})
	is(t, parse(t, "project(t, z = c + -a, a = b, y = a > 1)"), api.Plan{Op: "project", Kids: []api.Plan{leaf(0)}, Exprs: list(sum, col("b"), above),
		Cols: []api.Column{column(1, "z", api.Int64), column(2, "a", api.Text), column(3, "y", api.Bool)}})
	is(t, parse(t, "join(t, u, b = f, a = e, a = e)"), api.Plan{Op: "join", Kids: []api.Plan{leaf(0), leaf(1)}, On: []api.Pair{{Left: 1, Right: 1}, {Left: 0, Right: 0}, {Left: 0, Right: 0}},
		Cols: []api.Column{a, b, c, d, column(5, "e", api.Int32), column(6, "f", api.Text)}})
	is(t, parse(t, "union(x, t, x)"), api.Plan{Op: "union", Kids: []api.Plan{leaf(2), leaf(0), leaf(2)}, Cols: leaf(2).Cols})
	is(t, parse(t, "distinct(u)"), api.Plan{Op: "distinct", Kids: []api.Plan{leaf(1)}, Cols: leaf(1).Cols})
	is(t, parse(t, "group(t, by d b, n = count(), s = sum(a), a = max(b), l = min(c))"), api.Plan{Op: "group", Kids: []api.Plan{leaf(0)}, By: []int{3, 1},
		Aggs: []api.Agg{{Fn: "count"}, {Fn: "sum"}, {Fn: "max", At: 1}, {Fn: "min", At: 2}},
		Cols: []api.Column{column(1, "d", api.Bool), column(2, "b", api.Text), column(3, "n", api.Int64), column(4, "s", api.Int64), column(5, "a", api.Text), column(6, "l", api.Int64)}})
	is(t, parse(t, "group(t, n = count())"), api.Plan{Op: "group", Kids: []api.Plan{leaf(0)}, Aggs: []api.Agg{{Fn: "count"}}, Cols: []api.Column{column(1, "n", api.Int64)}})
}

// P14.1, L2: each Agg of a column of each kind: what it may be of, and which kind it comes to.
func TestAggs(t *testing.T) {
	for at, c := range columns(4) {
		for _, fn := range []string{"sum", "min", "max"} {
			n := of("group", from("t"), by(), agg("z", fn, c.Name))
			want := api.Plan{Op: "group", Kids: []api.Plan{leaf(0)}, Aggs: []api.Agg{{Fn: fn, At: at}}, Cols: []api.Column{column(1, "z", c.Kind)}}
			if fn == "sum" {
				want.Cols[0].Kind = api.Int64
				if c.Kind != api.Int32 && c.Kind != api.Int64 {
					wrong(t, n, api.ErrType)
					continue
				}
			}
			is(t, n, want)
		}
		is(t, of("group", from("t"), by(c.Name), count("z")), api.Plan{Op: "group", Kids: []api.Plan{leaf(0)}, By: []int{at}, Aggs: []api.Agg{{Fn: "count"}},
			Cols: []api.Column{column(1, c.Name, c.Kind), column(2, "z", api.Int64)}})
	}
}

// P14.1, L2: of tables the first of a name is meant, wherever it stands; names are told apart by each byte.
func TestFirstTable(t *testing.T) {
	one, two, three := api.Table{Name: "t", Cols: columns(1)}, api.Table{Name: "t", Cols: columns(2)}, api.Table{Name: "T", Cols: columns(3)}
	for _, l := range [][]api.Table{{one}, {one, two}, {two, one}, {three, one, two}, {three, two, three, one}, {three}, {one, three}} {
		p, e := plan.Of(from("t"), l...)
		i := slices.IndexFunc(l, func(o api.Table) bool { return o.Name == "t" })
		if i < 0 {
			if e != api.ErrName || !same(p, api.Plan{}) {
				t.Errorf("Of(t) where there is none: %v, %d", p, e)
			}
		} else if e != api.OK || !same(p, api.Plan{Op: "from", Table: "t", Cols: numbered(l[i].Cols...)}) {
			t.Errorf("Of(t) of %v: %v, %d", l, p, e)
		}
	}
}

// P14.2: the columns of plans in plans are schemas, and their places are places; with the texts and the tables that L2 tells of them (P14.1).
func TestPlans(t *testing.T) {
	for s, want := range map[string][]string{
		"t":                                     {"t", "t"},
		"filter(t, a > 1 or d and not b = 'x')": {"filter[a > 1 or d and not b = 'x'](t)", "t"},
		"filter(filter(t, null), d is null)":    {"filter[d is null](filter[null](t))", "t"},
		"project(t, z = a)":                     {"project[a](t)", "t"},
		"project(u, z = e * (e - 1), y = 'x''y', f = e is null, e = -2147483648)": {"project[e * (e - 1); 'x''y'; e is null; -2147483648](u)", "u"},
		"join(t, u, a = e)":                                                                   {"join[0=0](t, u)", "t u"},
		"join(u, t, f = b, e = a)":                                                            {"join[1=1; 0=0](u, t)", "t u"},
		"join(join(t, u, b = f), x, d = s, f = q)":                                            {"join[3=3; 5=1](join[1=1](t, u), x)", "t u x"},
		"join(u, join(x, project(t, a = d), s = a), e = p)":                                   {"join[0=0](u, join[3=0](x, project[d](t)))", "t u x"},
		"union(t, t)":                                                                         {"union[](t, t)", "t"},
		"union(u, u, distinct(u), project(x, a = p, b = q))":                                  {"union[](u, u, distinct[](u), project[p; q](x))", "u x"},
		"distinct(distinct(u))":                                                               {"distinct[](distinct[](u))", "u"},
		"group(t, n = count())":                                                               {"group[count 0](t)", "t"},
		"group(t, by a, n = count())":                                                         {"group[0; count 0](t)", "t"},
		"group(t, by d b a c, n = count())":                                                   {"group[3 1 0 2; count 0](t)", "t"},
		"group(w, by l, n = max(k), m = min(a), s = sum(k), o = count())":                     {"group[11; max 10; min 0; sum 10; count 0](w)", "w"},
		"group(filter(t, a > 1), by b, n = count(), s = sum(a))":                              {"group[1; count 0; sum 0](filter[a > 1](t))", "t"},
		"group(group(t, by b, n = count()), by n, b = max(b), x = sum(n))":                    {"group[1; max 0; sum 1](group[1; count 0](t))", "t"},
		"filter(group(join(u, x, e = p), by q, n = sum(p)), n > 3)":                           {"filter[n > 3](group[3; sum 2](join[0=0](u, x)))", "u x"},
		"project(union(u, u), x = -e)":                                                        {"project[-e](union[](u, u))", "u"},
		"union(filter(u, e < 1), filter(u, e = 1), filter(u, e > 1), distinct(u))":            {"union[](filter[e < 1](u), filter[e = 1](u), filter[e > 1](u), distinct[](u))", "u"},
		"union(project(w, a = l), project(t, b = d), project(x, c = s), project(u, d = e=1))": {"union[](project[l](w), project[d](t), project[s](x), project[e = 1](u))", "t u w x"},
	} {
		n := parse(t, s)
		p, e := plan.Of(n, tables()...)
		if e != api.OK || plan.Show(p) != want[0] || strings.Join(plan.Tables(p), " ") != want[1] {
			t.Errorf("%q: %q, %v, %d", s, plan.Show(p), plan.Tables(p), e)
		}
		sound(t, p)
	}
}

// P14.1, L2: Show of plans that were handed in by hand: all that they have is told, whatever their Op; of a `from` its Table alone.
func TestShow(t *testing.T) {
	full := api.Plan{Op: "x y", Table: "t", Cols: columns(2), Kids: []api.Plan{{Op: "from", Table: "u"}, {Op: "from"}, {}},
		Exprs: list(col("a"), api.Node{}, of("and", col("b"), of("or", col("c"), of("null")))), On: []api.Pair{{Left: 1, Right: -2}, {}}, By: []int{-1, 0, 1 << 40}, Aggs: []api.Agg{{Fn: "sum", At: 7}, {At: -7}, {Fn: ";"}}}
	leaf := full
	leaf.Op = "from"
	for _, k := range []struct {
		p    api.Plan
		want string
	}{
		{api.Plan{}, "[]()"}, {api.Plan{Table: "t"}, "[]()"}, {api.Plan{Op: "from"}, ""}, {api.Plan{Op: "from", Table: "a b"}, "a b"}, {leaf, "t"}, {api.Plan{Op: "From", Table: "t"}, "From[]()"},
		{full, "x y[a; ?; b and (c or null); 1=-2; 0=0; -1 0 1099511627776; sum 7;  -7; ; 0](u, , []())"},
		{api.Plan{Op: "filter", Exprs: []api.Node{}, On: []api.Pair{}, By: []int{}, Aggs: []api.Agg{}, Kids: []api.Plan{}}, "filter[]()"},
		{api.Plan{Op: "distinct", Kids: []api.Plan{full, leaf}}, "distinct[](" + plan.Show(full) + ", t)"},
		{api.Plan{Op: "o", On: []api.Pair{{Left: 10, Right: 11}}}, "o[10=11]()"}, {api.Plan{Op: "o", By: []int{10}}, "o[10]()"}, {api.Plan{Op: "o", By: []int{0, 10}}, "o[0 10]()"},
		{api.Plan{Op: "o", Aggs: []api.Agg{{Fn: "min", At: 10}}}, "o[min 10]()"}, {api.Plan{Op: "o", Exprs: list(of("a", of("b")))}, "o[?]()"},
	} {
		if s := plan.Show(k.p); s != k.want {
			t.Errorf("Show(%v): %q, not %q", k.p, s, k.want)
		}
	}
}

// P14.1, L2: Tables of plans that were handed in by hand: the names of all `from`s, of whatever Op what they stand in is, rising, each once.
func TestTables(t *testing.T) {
	leaf := func(s string, kids ...api.Plan) api.Plan { return api.Plan{Op: "from", Table: s, Kids: kids} }
	in := func(op string, kids ...api.Plan) api.Plan { return api.Plan{Op: op, Table: "none", Kids: kids} }
	for _, k := range []struct {
		p    api.Plan
		want []string
	}{
		{api.Plan{}, nil}, {in("x"), nil}, {in("union", in("x"), in("")), nil}, {leaf("t"), []string{"t"}}, {leaf(""), []string{""}},
		{in("?", leaf("b"), leaf("a"), leaf("c"), leaf("a")), []string{"a", "b", "c"}},
		{in("", leaf("b"), leaf("aa"), leaf("a"), leaf("B"), leaf("é"), leaf("\xff"), leaf("")), []string{"", "B", "a", "aa", "b", "é", "\xff"}},
		{leaf("t", leaf("s", in("x", leaf("u"), leaf("t"))), leaf("a")), []string{"a", "s", "t", "u"}},
		{in("filter", in("y", in("z", leaf("t")), leaf("t")), leaf("t")), []string{"t"}},
	} {
		if l := plan.Tables(k.p); !slices.Equal(l, k.want) {
			t.Errorf("Tables(%s): %v, not %v", plan.Show(k.p), l, k.want)
		}
	}
}

// P14.1: queries, and plans, with as many parts nested in one another as may be.
func TestDeep(t *testing.T) {
	const deep = 1<<16 - 4
	n, s := from("u"), "u"
	for range deep {
		n = of("distinct", n)
	}
	p, e := plan.Of(n, tables()...)
	if s = times("distinct[](", deep) + s + times(")", deep); e != api.OK || plan.Show(p) != s || !slices.Equal(plan.Tables(p), []string{"u"}) || !slices.Equal(p.Cols, leaf(1).Cols) {
		t.Errorf("Of a deep query: %d", e)
	}
	wrong(t, of("union", n, from("t")), api.ErrType)
	wrong(t, of("distinct", n, n), api.ErrArg)
	truth := of("true")
	for range deep {
		truth = of("not", truth)
	}
	p, e = plan.Of(of("filter", from("u"), truth), tables()...)
	if e != api.OK || len(p.Exprs) != 1 || expr.Deep(p.Exprs[0]) != deep+1 {
		t.Errorf("Of a query with a deep expression: %d", e)
	}
	wrong(t, of("filter", from("u"), of("neg", truth)), api.ErrType)
	wide := api.Node{Op: "union", Kids: slices.Repeat(list(from("u")), 1<<16)}
	wrong(t, wide, api.ErrFull)
	wide.Kids[1<<16-1] = from("z")
	wrong(t, wide, api.ErrName)
	items := joined("project", list(from("u")), slices.Repeat(list(item("a", col("e"))), 1<<16))
	wrong(t, items, api.ErrTwice)
}
