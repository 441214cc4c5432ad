package plan_test

import (
	"math"
	"slices"
	"testing"

	"instar/api"
	"instar/expr"
	"instar/plan"
	"instar/query"
)

// texts holds what is wrong with queries, told by their texts.
func texts(t *testing.T, m map[string]api.Errno) {
	t.Helper()
	for s, want := range m {
		wrong(t, parse(t, s), want)
	}
}

// P14.1, L2: what is no query's node.
func TestNoQuery(t *testing.T) {
	q, x := from("t"), from("x")
	for _, op := range []string{"", "?", "From", " from", "item", "on", "by", "agg", "count", "sum", "min", "max", "col", "num", "text", "true", "null", "and", "not", "neg", "=", "+", "is null", "create table", "query", "filter ", "\xff"} {
		for _, s := range []string{"", "t", "a", "1"} {
			for n := range 4 {
				wrong(t, named(op, s, slices.Repeat(list(q), n)...), api.ErrArg)
			}
		}
		// None of its Kids is a query: it is told itself.
		wrong(t, of(op, from("z")), api.ErrArg)
		wrong(t, of("distinct", of(op, from("z"))), api.ErrArg)
	}
	one, pair, agg1 := item("z", col("a")), on("a", "p"), count("n")
	right := []api.Node{
		q, of("filter", q, of("true")), of("project", q, one), of("project", q, one, item("y", col("b"))), of("join", q, x, pair), of("join", q, x, pair, pair), of("union", q, x), of("union", q, x, q),
		of("distinct", q), of("group", q, by(), agg1), of("group", q, by("a"), agg1), of("group", q, by("a", "b"), agg1, count("m")),
	}
	for _, n := range right {
		if _, e := plan.Of(n, tables()...); e != api.OK {
			t.Errorf("Of(%s): %d", query.Show(n), e)
		}
		if n.Op != "from" {
			// Texts where there is none, and Kids too few.
			wrong(t, named(n.Op, "t", n.Kids...), api.ErrArg)
			wrong(t, named(n.Op, " ", n.Kids...), api.ErrArg)
			for i := range n.Kids {
				if k := n.Kids[:i]; (n.Op != "project" || i < 2) && (n.Op != "join" && n.Op != "group" || i < 3) && (n.Op != "union" || i < 2) {
					wrong(t, of(n.Op, k...), api.ErrArg)
				}
			}
		}
		// A Kid too many.
		for _, k := range []api.Node{q, {}, of("true"), col("a"), of("by")} {
			if n.Op != "union" || k.Op != "from" {
				wrong(t, api.Node{Op: n.Op, Text: n.Text, Kids: append(slices.Clone(n.Kids), k)}, api.ErrArg)
			}
		}
	}
	wrong(t, named("from", "t", q), api.ErrArg)
	wrong(t, named("from", "t", from("z")), api.ErrArg)
	wrong(t, of("filter", q, of("true"), of("true")), api.ErrArg)
	wrong(t, of("distinct", q, x), api.ErrArg)
}

// P14.1, L2: what is no query's node for what an item, a pair, a `by`, an Agg of it is.
func TestNoParts(t *testing.T) {
	q, x := from("t"), from("x")
	for _, k := range []api.Node{{}, col("a"), of("item"), item("z", api.Node{Op: "item", Kids: list(col("a"))}), named("item", "z", col("a"), col("a")), named("on", "z", col("a")), named("agg", "z", col("a")), q, count("n"), of("by")} {
		good := k.Op == "item" && len(k.Kids) == 1 // what stands in it is told by 13: it is ErrArg, too
		if !good || k.Kids[0].Op == "item" {
			wrong(t, of("project", q, k), api.ErrArg)
			wrong(t, of("project", q, item("z", col("a")), k), api.ErrArg)
			wrong(t, of("project", q, k, item("z", col("none"))), api.ErrArg)
		}
	}
	for _, k := range []api.Node{{}, named("on", "a"), named("on", "a", named("col", "p", of("x"))), named("on", "a", col("p"), col("p")), named("on", "a", named("num", "1")), named("on", "a", from("p")), item("a", col("p")), named("agg", "a", col("p")), col("p"), q, of("by", col("a"))} {
		wrong(t, of("join", q, x, k), api.ErrArg)
		wrong(t, of("join", q, x, on("a", "p"), k), api.ErrArg)
		wrong(t, of("join", q, x, on("none", "p"), k), api.ErrArg)
	}
	for _, k := range []api.Node{{}, named("by", "a"), named("by", "a", col("a")), of("by", named("col", "a", of("x"))), of("by", col("a"), of("x")), of("by", from("a")), of("by", named("item", "a")), of("col"), named("on", "a", col("b")), count("n"), of("by", of("by")), of("By")} {
		wrong(t, of("group", q, k, count("n")), api.ErrArg)
	}
	for _, k := range []api.Node{{}, named("agg", "n"), named("agg", "n", of("count"), of("count")), named("agg", "n", of("count", of("x"))), agg("n", "count", "a"), agg("n", "", ""), agg("n", "", "a"), agg("n", "avg", "a"), agg("n", "col", "a"), agg("n", "Sum", "a"),
		named("agg", "n", named("sum", "a", col("a"))), named("agg", "n", named("min", "", col("a"))), named("agg", "n", named("max", "a", of(""))), item("n", of("count")), named("on", "n", col("a")), of("count"), named("sum", "a"), of("by"), q} {
		wrong(t, of("group", q, by(), k), api.ErrArg)
		wrong(t, of("group", q, by("a"), count("n"), k), api.ErrArg)
		wrong(t, of("group", q, by("none"), k), api.ErrArg)
	}
	// The by stands ahead of the Aggs, once.
	wrong(t, of("group", q, count("n"), by()), api.ErrArg)
	wrong(t, of("group", q, count("n"), count("m")), api.ErrArg)
	wrong(t, of("group", by(), q, count("n")), api.ErrArg)
}

// P14.1, L2: a table that is not there, and a name that is none of a table's.
func TestNoTable(t *testing.T) {
	for _, s := range []string{"z", "T", "", " ", "t ", " t", "?", "null", "true", "a", "late", "from", "\xff", times("t", 21), times("t", 1<<16)} {
		wrong(t, from(s), api.ErrName)
		wrong(t, of("distinct", from(s)), api.ErrName)
		wrong(t, of("union", from("t"), from(s)), api.ErrName)
		if p, e := plan.Of(from(s)); e != api.ErrName || !same(p, api.Plan{}) {
			t.Errorf("Of(%q), without tables: %v, %d", s, p, e)
		}
	}
	for _, l := range [][]api.Table{nil, {}, tables()[1:2], tables()[:1][:0]} {
		if p, e := plan.Of(from("t"), l...); e != api.ErrName || !same(p, api.Plan{}) {
			t.Errorf("Of(t) over %v: %v, %d", l, p, e)
		}
	}
}

// P14.1, L2: 4 `from`s, and 5, on the left, on the right, and in a union of many.
func TestLeaves(t *testing.T) {
	u := from("u")
	of4 := of("union", u, u, u, u)
	for _, n := range []api.Node{of4, of("union", of("union", u, u), of("union", u, u)), of("distinct", of4), of("union", of("union", of("union", u, u), u), u), of("union", u, of("union", u, of("union", u, u))), of("filter", of4, of("true")), of("group", of("project", of4, item("a", col("e"))), by("a"), count("n"))} {
		if p, e := plan.Of(n, tables()...); e != api.OK {
			t.Errorf("Of(%s): %v, %d", query.Show(n), p, e)
		}
	}
	right := of("project", from("u"), item("r", col("e")))
	for _, n := range []api.Node{
		of("union", u, u, u, u, u), of("union", of4, u), of("union", u, of4), of("union", of4, of4), of("union", of("union", u, u), of("union", u, u, u)), of("union", u, of("distinct", of4)), api.Node{Op: "union", Kids: slices.Repeat(list(u), 100)},
		of("join", of4, right, on("e", "r")), of("join", right, of4, on("r", "e")), of("distinct", of("union", of4, u)), of("union", u, of("union", u, of("union", u, of("union", u, u)))),
	} {
		wrong(t, n, api.ErrFull)
		wrong(t, of("filter", n, col("none")), api.ErrFull)
	}
	// Each comes in its order: what is no query's node ahead of it, all else behind.
	wrong(t, of("join", of4, right), api.ErrArg)
	wrong(t, named("union", "x", u, u, u, u, u), api.ErrArg)
	wrong(t, of("union", of4, from("t")), api.ErrFull)
	wrong(t, of("join", of4, right, on("none", "none")), api.ErrFull)
	wrong(t, of("join", of4, u, on("e", "f")), api.ErrFull)
	wrong(t, of("join", of4, u, on("e", "e")), api.ErrFull)
	wrong(t, of("union", u, u, u, u, from("z")), api.ErrName)
	wrong(t, of("union", u, u, u, u, u, of("distinct")), api.ErrArg)
	wrong(t, of("union", of("union", u, u, u, u, u), from("z")), api.ErrFull)
	// All that stand in it are meant, also where none may stand.
	wrong(t, of("filter", of4, of("not", u)), api.ErrFull)
	wrong(t, of("filter", of("union", u, u, u), of("not", u)), api.ErrArg)
	wrong(t, of("project", of("union", u, u, u), item("a", col("none")), item("b", of("and", u, u))), api.ErrFull)
	wrong(t, of("project", of("union", u, u), item("a", col("none")), item("b", of("and", u, u))), api.ErrName)
}

// P14.1, L2: a filter of Bool, of Null, of other kinds, and of expressions with each error of 13.
func TestFilter(t *testing.T) {
	for _, s := range []string{"d", "true", "null", "a > 1", "a is null", "null and d", "not null", "null = null", "b = 'x'"} {
		n := parse(t, "filter(t, "+s+")")
		if p, e := plan.Of(n, tables()...); e != api.OK || len(p.Exprs) != 1 || !expr.Same(p.Exprs[0], n.Kids[1]) || !slices.Equal(p.Cols, leaf(0).Cols) {
			t.Errorf("Of(%s): %v, %d", query.Show(n), p, e)
		}
	}
	texts(t, map[string]api.Errno{
		"filter(t, a)": api.ErrType, "filter(t, b)": api.ErrType, "filter(t, c)": api.ErrType, "filter(t, 1)": api.ErrType, "filter(t, 'true')": api.ErrType, "filter(t, a + null)": api.ErrType, "filter(t, -a)": api.ErrType,
		"filter(t, e)": api.ErrName, "filter(t, t)": api.ErrName, "filter(t, a and none)": api.ErrName, "filter(t, a and d)": api.ErrType, "filter(t, a = b)": api.ErrType, "filter(t, not 1)": api.ErrType, "filter(t, -d)": api.ErrType,
		"filter(project(t, z = a), a > 1)": api.ErrName, "filter(group(t, n = count()), n)": api.ErrType, "filter(join(t, u, a = e), e = f)": api.ErrType,
	})
	for _, n := range []api.Node{{}, of("?"), from("t"), of("and", of("true")), of("not"), named("true", "x"), named("num", ""), named("num", "x"), named("text", times("x", 201)), named("col", "a", of("null")), item("a", col("d")), of("and", of("true"), named("num", "01x"))} {
		wrong(t, of("filter", from("t"), n), api.ErrArg)
		wrong(t, of("project", from("t"), item("z", n)), api.ErrArg)
	}
	// Null is a filter's kind: + of two nulls is Null, too.
	is(t, parse(t, "filter(u, null + null)"), api.Plan{Op: "filter", Cols: leaf(1).Cols, Kids: []api.Plan{leaf(1)}, Exprs: list(of("+", of("null"), of("null")))})
}

// P14.1, L2: a project whose item is Null, or wrong, or that has the name of another; item by item.
func TestProject(t *testing.T) {
	texts(t, map[string]api.Errno{
		"project(t, z = null)": api.ErrType, "project(t, z = -null)": api.ErrType, "project(t, z = null * null)": api.ErrType, "project(t, z = none)": api.ErrName, "project(t, z = a + b)": api.ErrType, "project(t, z = not a)": api.ErrType,
		"project(t, z = a, z = a)": api.ErrTwice, "project(t, z = a, y = b, z = c)": api.ErrTwice, "project(t, z = a, a = z)": api.ErrName,
		"project(t, z = null, y = none)": api.ErrType, "project(t, z = none, y = null)": api.ErrName, "project(t, z = a, z = none)": api.ErrName, "project(t, z = a, z = null)": api.ErrType,
		"project(project(t, z = a), y = a)": api.ErrName, "project(filter(t, none), y = null)": api.ErrName,
	})
	for s, k := range map[string]api.Kind{"a": api.Int32, "b": api.Text, "c": api.Int64, "d": api.Bool, "null = 1": api.Bool, "null is null": api.Bool, "a * c": api.Int64, "a * null": api.Int32, "2147483648": api.Int64, "-2147483648": api.Int64, "2147483647": api.Int32, "''": api.Text, "d and null": api.Bool, "not null": api.Bool} {
		if p, e := plan.Of(parse(t, "project(t, d = "+s+")"), tables()...); e != api.OK || !slices.Equal(p.Cols, []api.Column{column(1, "d", k)}) {
			t.Errorf("project of %s: %v, %d", s, p, e)
		}
	}
}

// P14.1, L2: a join whose pair's names are not there, on the left, on the right, whose kinds are two, whose two queries share a name; pair by pair.
func TestJoin(t *testing.T) {
	texts(t, map[string]api.Errno{
		"join(t, x, none = p)": api.ErrName, "join(t, x, a = none)": api.ErrName, "join(t, x, none = none)": api.ErrName, "join(t, x, p = a)": api.ErrName, "join(t, x, a = a)": api.ErrName, "join(t, x, p = p)": api.ErrName,
		"join(t, x, a = q)": api.ErrType, "join(t, x, a = r)": api.ErrType, "join(t, x, c = p)": api.ErrType, "join(t, x, a = s)": api.ErrType, "join(t, x, d = p)": api.ErrType,
		"join(t, x, a = p, none = p)": api.ErrName, "join(t, x, a = q, none = p)": api.ErrType, "join(t, x, none = p, a = q)": api.ErrName, "join(t, x, a = p, a = q, a = none)": api.ErrType,
		"join(t, t, a = a)": api.ErrTwice, "join(t, t, a = c)": api.ErrType, "join(t, t, a = z)": api.ErrName, "join(t, project(x, d = p), a = d)": api.ErrTwice, "join(project(x, d = p), t, d = a)": api.ErrTwice,
		"join(z, t, a = a)": api.ErrName, "join(t, z, a = b)": api.ErrName, "join(filter(t, a), z, a = b)": api.ErrType, "join(z, filter(t, a), a = b)": api.ErrName,
	})
	for _, s := range []string{"a = p", "b = q", "c = r", "d = s", "a = p, b = q, c = r, d = s", "a = p, a = p"} {
		if _, e := plan.Of(parse(t, "join(t, x, "+s+")"), tables()...); e != api.OK {
			t.Errorf("join by %s: %d", s, e)
		}
	}
}

// P14.1, L2: a union of one, of two, of many, whose kinds are not one, whose columns are more or fewer; its names are those of the first.
func TestUnion(t *testing.T) {
	for _, op := range []string{"union"} {
		wrong(t, of(op), api.ErrArg)
		wrong(t, of(op, from("t")), api.ErrArg)
		wrong(t, of(op, from("z")), api.ErrName)
	}
	texts(t, map[string]api.Errno{
		"union(t, u)": api.ErrType, "union(u, t)": api.ErrType, "union(t, x, u)": api.ErrType, "union(t, u, z)": api.ErrName, "union(u, project(u, a = e))": api.ErrType, "union(project(u, a = e), u)": api.ErrType,
		"union(project(t, z = a), project(t, z = b))": api.ErrType, "union(project(t, z = a), project(t, z = c))": api.ErrType, "union(project(t, z = c), project(t, z = a))": api.ErrType, "union(project(t, z = c), project(t, z = d))": api.ErrType,
		"union(project(t, z = a, y = b), project(t, y = b, z = a))": api.ErrType, "union(project(t, z = a), project(t, y = a), project(t, z = d))": api.ErrType, "union(project(t, z = a), project(t, z = b), project(t, z = null))": api.ErrType,
		"union(project(t, z = a), project(t, z = none), project(t, z = b))": api.ErrName,
	})
	for _, s := range []string{"union(t, x)", "union(x, t)", "union(u, project(t, z = a, y = b))", "union(t, x, t, x)", "union(project(t, z = a), project(x, y = p), project(u, y = e))"} {
		p, e := plan.Of(parse(t, s), tables()...)
		if e != api.OK || !slices.Equal(p.Cols, p.Kids[0].Cols) {
			t.Errorf("Of(%s): %v, %d", s, p, e)
		}
	}
}

// P14.1, L2: a group by none, by a name that is not there, with each Agg; By's names come first, one by one, then Agg by Agg.
func TestGroup(t *testing.T) {
	texts(t, map[string]api.Errno{
		"group(t, by none, n = count())": api.ErrName, "group(t, by a none, n = count())": api.ErrName, "group(t, by none a, n = sum(b))": api.ErrName, "group(t, n = sum(none))": api.ErrName, "group(t, n = min(none))": api.ErrName, "group(t, n = max(none))": api.ErrName,
		"group(t, n = sum(b))": api.ErrType, "group(t, n = sum(d))": api.ErrType, "group(t, n = sum(b), m = max(none))": api.ErrType, "group(t, n = max(none), m = sum(b))": api.ErrName, "group(t, n = count(), m = sum(d))": api.ErrType, "group(t, by none, n = sum(d))": api.ErrName,
		"group(t, by n, n = count())": api.ErrName, "group(t, by t, n = count())": api.ErrName, "group(t, n = count(), m = sum(n))": api.ErrName,
		"group(t, by a a, n = count())": api.ErrTwice, "group(t, by a b a, n = count())": api.ErrTwice, "group(t, by a, a = count())": api.ErrTwice, "group(t, n = count(), n = count())": api.ErrTwice, "group(t, by b, n = sum(a), b = max(b))": api.ErrTwice, "group(t, by a a, n = sum(b))": api.ErrType,
		"group(z, by a a, n = sum(b))": api.ErrName, "group(filter(t, a), by none, n = count())": api.ErrType,
	})
}

// P14.1, P14.2: names that may not be, and that two have, and 12 columns and 13: ErrArg, ErrTwice, ErrFull, in this order, at last of all.
func TestColumns(t *testing.T) {
	for _, s := range []string{"", " ", "and", "null", "is", "1", "_a", "a b", "a ", "a.b", "é", "?", times("a", 21), times("a", 1<<16)} {
		wrong(t, of("project", from("t"), item(s, col("a"))), api.ErrArg)
		wrong(t, of("project", from("t"), item("z", col("a")), item("z", col("a")), item(s, col("a"))), api.ErrArg)
		wrong(t, of("project", from("t"), item(s, col("none"))), api.ErrName)
		wrong(t, of("project", from("t"), item(s, of("null"))), api.ErrType)
		wrong(t, of("group", from("t"), by("a"), count(s)), api.ErrArg)
		wrong(t, of("group", from("t"), by("a", "a"), count(s)), api.ErrArg)
		wrong(t, of("group", from("t"), by(), agg("n", "min", "b"), agg(s, "max", "a"), count("n")), api.ErrArg)
		wrong(t, of("group", from("t"), by(), agg(s, "sum", "b")), api.ErrType)
		wrong(t, of("distinct", of("project", from("t"), item(s, col("a")))), api.ErrArg)
		// The name of no column.
		wrong(t, of("group", from("t"), by(s), count("n")), api.ErrName)
		wrong(t, of("group", from("t"), by(), agg("n", "min", s)), api.ErrName)
		wrong(t, of("join", from("t"), from("x"), on(s, "p")), api.ErrName)
		wrong(t, of("join", from("t"), from("x"), on("a", s)), api.ErrName)
	}
	for _, s := range []string{times("a", 20), "A", "count", "by", "filter", "from", "a_1", "True"} {
		for _, n := range []api.Node{of("project", from("t"), item(s, col("a"))), of("group", from("t"), by(), count(s))} {
			if p, e := plan.Of(n, tables()...); e != api.OK || len(p.Cols) != 1 || p.Cols[0].Name != s {
				t.Errorf("Of(%s): %v, %d", query.Show(n), p, e)
			}
		}
	}
	var items, aggs []api.Node
	for i := range 14 {
		s := string(rune('a' + i))
		items, aggs = append(items, item(s, col("k"))), append(aggs, count(s))
	}
	names := []string{"a", "b", "c", "d", "e", "f", "g", "h", "i", "j", "k", "l"}
	for n := 1; n < 15; n++ {
		for _, q := range []api.Node{joined("project", list(from("w")), items[:n]), joined("group", list(from("w"), by()), aggs[:n])} {
			if p, e := plan.Of(q, tables()...); n <= 12 && (e != api.OK || len(p.Cols) != n) {
				t.Errorf("Of(%s): %v, %d", query.Show(q), p, e)
			} else if n > 12 {
				wrong(t, q, api.ErrFull)
				wrong(t, of("distinct", q), api.ErrFull)
				// Two of one name, and one that may not be, come ahead.
				twice := append(slices.Clone(q.Kids), q.Kids[len(q.Kids)-1])
				wrong(t, of(q.Op, twice...), api.ErrTwice)
				twice[len(twice)-1].Text = ""
				wrong(t, of(q.Op, twice...), api.ErrArg)
			}
		}
	}
	full := of("group", from("w"), by(names...), count("m"))
	wrong(t, full, api.ErrFull)
	full.Kids[2].Text = "a"
	wrong(t, full, api.ErrTwice)
	full.Kids[1] = by(names[:11]...)
	full.Kids[2].Text = "l"
	if p, e := plan.Of(full, tables()...); e != api.OK || len(p.Cols) != 12 {
		t.Errorf("Of(%s): %v, %d", query.Show(full), p, e)
	}
	wrong(t, of("join", from("w"), from("x"), on("a", "p")), api.ErrFull)
	wrong(t, of("join", from("x"), from("w"), on("p", "a")), api.ErrFull)
	wrong(t, of("join", from("w"), from("t"), on("a", "a")), api.ErrTwice)
	eight := joined("project", list(from("w")), items[4:12])
	if p, e := plan.Of(of("join", from("t"), eight, on("a", "e")), tables()...); e != api.ErrType {
		t.Errorf("join of eight and four: %v, %d", p, e)
	}
	if p, e := plan.Of(of("join", from("t"), eight, on("c", "e")), tables()...); e != api.OK || len(p.Cols) != 12 || p.Cols[11] != column(12, "l", api.Int64) {
		t.Errorf("join of eight and four: %v, %d", p, e)
	}
}

// P14.1: where two things are wrong, the one on the left is told; what is wrong with a query in another comes ahead of that one's own.
func TestFirst(t *testing.T) {
	faults := []struct {
		n    api.Node
		want api.Errno
	}{
		{api.Node{}, api.ErrArg}, {of("union"), api.ErrArg}, {from("z"), api.ErrName}, {api.Node{Op: "union", Kids: slices.Repeat(list(from("t")), 5)}, api.ErrFull}, {of("filter", from("t"), col("none")), api.ErrName},
		{of("filter", from("t"), col("a")), api.ErrType}, {of("union", from("t"), from("u")), api.ErrType}, {of("join", from("t"), from("t"), on("a", "a")), api.ErrTwice}, {of("project", from("t"), item("", col("a"))), api.ErrArg},
	}
	for _, f := range faults {
		for _, k := range []api.Node{of("distinct", f.n), named("distinct", "x", f.n), of("distinct", f.n, api.Node{}), of("filter", f.n), of("filter", f.n, col("none")), of("filter", f.n, api.Node{}), of("project", f.n), of("project", f.n, item("", of("null"))), of("group", f.n), of("group", f.n, by("none"), count("n")),
			of("join", f.n), of("join", from("t"), f.n), of("join", from("t"), f.n, on("none", "none")), of("join", f.n, from("t"), on("none", "none")), of("union", f.n), of("union", from("t"), f.n), of("union", from("t"), from("u"), f.n), of("union", from("t"), from("t"), from("t"), from("t"), from("t"), f.n)} {
			wrong(t, k, f.want)
			wrong(t, of("distinct", k), f.want)
		}
		for _, o := range faults {
			wrong(t, of("union", f.n, o.n), f.want)
			wrong(t, of("union", from("t"), f.n, o.n), f.want)
			wrong(t, of("join", f.n, o.n, on("a", "p")), f.want)
			wrong(t, of("join", f.n, of("distinct", o.n)), f.want)
		}
		// Of a node of another Op, and in a third Kid of a join, there is no query.
		wrong(t, of("x", f.n), api.ErrArg)
		wrong(t, of("join", from("t"), from("x"), f.n), api.ErrArg)
		wrong(t, of("filter", from("t"), of("true"), f.n), api.ErrArg)
		wrong(t, of("distinct", from("t"), f.n), api.ErrArg)
		wrong(t, named("from", "t", f.n), api.ErrArg)
	}
}

// P14.1: of a table's columns the names, and how many there are, are wrong with a query, at last of all; nothing else of them is.
func TestNoSchema(t *testing.T) {
	odd := column(1, "z", 9)
	for _, k := range []struct {
		cols []api.Column
		want api.Errno
	}{
		{columns(13), api.ErrFull}, {columns(14), api.ErrFull}, {[]api.Column{{ID: 1, Name: "", Kind: api.Bool}}, api.ErrArg}, {append(columns(2), column(1, "not", api.Bool)), api.ErrArg},
		{append(columns(2), columns(1)...), api.ErrTwice}, {append(append(columns(1), columns(1)...), column(1, "a b", api.Bool)), api.ErrArg}, {append(columns(13), columns(1)...), api.ErrTwice}, {append(columns(13), column(1, "", api.Bool)), api.ErrArg},
		{append(columns(12), odd), api.ErrFull}, {append(columns(1), odd, odd), api.ErrTwice}, {[]api.Column{odd, column(1, "", 9)}, api.ErrArg}, {[]api.Column{{}}, api.ErrArg},
	} {
		for _, n := range []api.Node{from("o"), of("distinct", from("o")), of("union", from("o"), from("z")), of("filter", from("o"), col("none"))} {
			over(t, n, k.cols, "", k.want)
		}
		over(t, of("x"), k.cols, "", api.ErrArg)
		if _, e := plan.Of(from("t"), append(tables(), api.Table{Name: "o", Cols: k.cols})...); e != api.OK {
			t.Errorf("Of(t) beside a table of %v: %d", k.cols, e)
		}
	}
	// IDs are the plan's own, whatever the table's are.
	ids := []api.Column{column(7, "a", api.Bool), column(7, "b", api.Text), column(-1, "c", api.Int32), column(0, "d", api.Int64)}
	over(t, from("o"), ids, "o", api.OK, ids...)
}

// over holds the plan of a query over one table o, with its columns, and what is wrong with it, against what should be.
func over(t *testing.T, n api.Node, cols []api.Column, text string, want api.Errno, has ...api.Column) {
	t.Helper()
	p, e := plan.Of(n, api.Table{Name: "o", Cols: cols})
	if e != want || e != api.OK && !same(p, api.Plan{}) {
		t.Errorf("Of(%s) over %v: %v, %d, not %d", query.Show(n), cols, p, e, want)
	} else if e == api.OK && (plan.Show(p) != text || !slices.Equal(p.Cols, numbered(has...))) {
		t.Errorf("Of(%s) over %v: %s, %v, not %s, %v", query.Show(n), cols, plan.Show(p), p.Cols, text, has)
	}
}

// P14.1: a table without columns: what a query over it asks of no column is right.
func TestNoColumns(t *testing.T) {
	for _, none := range [][]api.Column{nil, {}, columns(3)[:0]} {
		for s, want := range map[string]string{
			"o": "o", "distinct(o)": "distinct[](o)", "union(o, o, o)": "union[](o, o, o)", "filter(o, true)": "filter[true](o)", "filter(o, null)": "filter[null](o)", "filter(distinct(o), 1 < 2 or null)": "filter[1 < 2 or null](distinct[](o))",
		} {
			over(t, parse(t, s), none, want, api.OK)
		}
		n, z := column(1, "n", api.Int64), column(1, "z", api.Int32)
		over(t, parse(t, "group(o, n = count())"), none, "group[count 0](o)", api.OK, n)
		over(t, parse(t, "group(o, z = count(), n = count())"), none, "group[count 0; count 0](o)", api.OK, column(1, "z", api.Int64), n)
		over(t, parse(t, "project(o, z = 1)"), none, "project[1](o)", api.OK, z)
		over(t, parse(t, "union(project(o, z = 1), project(o, n = 2))"), none, "union[](project[1](o), project[2](o))", api.OK, z)
		for s, want := range map[string]api.Errno{
			"filter(o, a > 1)": api.ErrName, "filter(o, 1)": api.ErrType, "filter(o, 'x')": api.ErrType, "project(o, z = a)": api.ErrName, "project(o, z = null)": api.ErrType, "project(o, z = 1, z = 2)": api.ErrTwice, "group(o, n = min(a))": api.ErrName, "group(o, n = sum(a))": api.ErrName,
			"group(o, by a, n = count())": api.ErrName, "group(o, n = count(), n = count())": api.ErrTwice, "join(o, o, a = a)": api.ErrName, "join(o, project(o, z = 1), z = z)": api.ErrName, "join(project(o, z = 1), o, z = z)": api.ErrName,
			"union(o, project(o, z = 1))": api.ErrType, "union(project(o, z = 1), o)": api.ErrType, "union(o, o, o, o, o)": api.ErrFull, "union(o, z)": api.ErrName,
		} {
			over(t, parse(t, s), none, "", want)
		}
		over(t, of("distinct", from("o"), from("o")), none, "", api.ErrArg)
	}
}

// P14.1: a column of a kind that no column has: it is of that kind in the plan, too; what asks for another kind is ErrType.
func TestOtherKinds(t *testing.T) {
	for _, k := range []api.Kind{api.Null, 5, 9, -1, math.MaxInt, math.MinInt} {
		cols := []api.Column{column(5, "a", k), column(5, "b", api.Int32)}
		for s, want := range map[string]string{
			"o": "o", "distinct(o)": "distinct[](o)", "union(o, o)": "union[](o, o)", "filter(o, b > 1)": "filter[b > 1](o)", "filter(o, a is null)": "filter[a is null](o)", "filter(o, a = a)": "filter[a = a](o)", "filter(o, a < null)": "filter[a < null](o)",
		} {
			over(t, parse(t, s), cols, want, api.OK, cols...)
		}
		over(t, parse(t, "group(o, by a, n = min(a), m = max(a))"), cols, "group[0; min 0; max 0](o)", api.OK, column(1, "a", k), column(2, "n", k), column(3, "m", k))
		over(t, parse(t, "join(o, project(o, c = b), b = c)"), cols, "join[1=0](o, project[b](o))", api.OK, append(slices.Clone(cols), column(3, "c", api.Int32))...)
		over(t, parse(t, "join(o, group(o, c = max(a)), a = c)"), cols, "join[0=0](o, group[max 0](o))", api.OK, append(slices.Clone(cols), column(3, "c", k))...)
		for s, want := range map[string]api.Errno{
			"group(o, n = sum(a))": api.ErrType, "join(o, o, a = b)": api.ErrType, "join(o, o, a = a)": api.ErrTwice, "union(o, project(o, z = b, y = b))": api.ErrType, "filter(o, none)": api.ErrName, "filter(o, b)": api.ErrType, "group(o, by a a, n = count())": api.ErrTwice,
		} {
			over(t, parse(t, s), cols, "", want)
		}
		// Null is what a filter may be of, and what numbers and truths may stand beside; an item may be of any kind but Null.
		if k == api.Null {
			over(t, parse(t, "filter(o, a or a + b > 1)"), cols, "filter[a or a + b > 1](o)", api.OK, cols...)
			over(t, parse(t, "project(o, z = a)"), cols, "", api.ErrType)
			continue
		}
		over(t, parse(t, "project(o, z = a)"), cols, "project[a](o)", api.OK, column(1, "z", k))
		for _, s := range []string{"a", "not a", "a + b > 1", "a > b", "-a = 1"} {
			over(t, parse(t, "filter(o, "+s+")"), cols, "", api.ErrType)
		}
	}
}
