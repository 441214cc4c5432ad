package query_test

import (
	"slices"
	"testing"

	"instar/api"
	"instar/expr"
	"instar/query"
)

// shown holds a node's text against the one that it should have.
func shown(t *testing.T, n api.Node, want string) {
	t.Helper()
	if s := query.Show(n); s != want {
		t.Errorf("Show(%v): %q, not %q", n, cut(s), cut(want))
	}
}

// P10.1, Q2: the texts of queries of each form: where blanks stand, and where not.
func TestShow(t *testing.T) {
	for _, s := range samples() {
		shown(t, s.node, s.text)
	}
	shown(t, filter(filter(t0, of("not", of("or", a, b))), of("-", a, of("-", b, one))), "filter(filter(t, not (a or b)), a - (b - 1))")
	shown(t, project(t0, item("a", named("text", "it's")), item("b", of("neg", of("neg", one)))), "project(t, a = 'it''s', b = -(-1))")
	shown(t, filter(a, t0), "filter(?, ?)")
	shown(t, project(t0, item("a", of("=", of("=", a, b), one))), "project(t, a = (a = b) = 1)")
	shown(t, group(t0, by("by"), agg("by", "max", "by")), "group(t, by by, by = max(by))")
	shown(t, group(t0, by(), agg("by", "count", "")), "group(t, by = count())")
	shown(t, group(t0, of("by"), count, count), "group(t, n = count(), n = count())")
	// A list without elements may be nil or not.
	none := []api.Node{}
	shown(t, api.Node{Op: "from", Text: "t", Kids: none}, "t")
	shown(t, group(api.Node{Op: "from", Text: "t", Kids: none}, api.Node{Op: "by", Kids: none}, named("agg", "n", api.Node{Op: "count", Kids: none})), "group(t, n = count())")
	shown(t, join(t0, u0, named("on", "a", api.Node{Op: "col", Text: "b", Kids: none})), "join(t, u, a = b)")
	// What Text a name has is not asked: it is shown as it stands.
	for _, s := range []string{"", "null", "a b", "1", "(", "?", times("x", 30), "\xff"} {
		shown(t, from(s), s)
		shown(t, distinct(from(s)), "distinct("+s+")")
		shown(t, project(t0, item(s, one)), "project(t, "+s+" = 1)")
		shown(t, join(t0, u0, on(s, s)), "join(t, u, "+s+" = "+s+")")
		shown(t, group(t0, by(s), agg(s, "sum", s)), "group(t, by "+s+", "+s+" = sum("+s+"))")
	}
}

// P10.1, Q2: a node that is no query's is ?: of no Op, of an expression's, or of what stands in a query alone.
func TestShowNoQuery(t *testing.T) {
	for _, op := range slices.Concat(calls, own, []string{"", "?", "From", "FROM", " from", "from ", "table", "t", "Filter", "filters", "select", "item", "on", "by", "agg", "col", "num", "text", "neg", "is null", "=", "+", "(", "filter(", "query", "\x00"}) {
		for _, s := range []string{"", "t"} {
			for _, l := range [][]api.Node{nil, {t0}, {a}, {t0, a}, {t0, u0}, {t0, item("a", b)}, {t0, u0, on("a", "b")}, {t0, by("a"), count}} {
				n := api.Node{Op: op, Text: s, Kids: l}
				shown(t, n, "?")
				// Within a query it is ? alone.
				shown(t, filter(n, a), "filter(?, a)")
				shown(t, project(n, item("a", b)), "project(?, a = b)")
				shown(t, join(n, u0, on("a", "b")), "join(?, u, a = b)")
				shown(t, join(t0, n, on("a", "b")), "join(t, ?, a = b)")
				shown(t, union(n, t0, n), "union(?, t, ?)")
				shown(t, distinct(distinct(n)), "distinct(distinct(?))")
				shown(t, group(n, by("a"), count), "group(?, by a, n = count())")
			}
		}
	}
	shown(t, api.Node{}, "?")
	// A part at a query's place is no query.
	shown(t, project(item("a", b), item("c", b)), "project(?, c = b)")
	shown(t, join(t0, on("a", "b"), on("a", "b")), "join(t, ?, a = b)")
	shown(t, join(on("a", "b"), on("a", "b"), on("a", "b")), "join(?, ?, a = b)")
	shown(t, union(by("a"), count), "union(?, ?)")
	shown(t, group(by(), by("a"), count), "group(?, by a, n = count())")
}

// P10.1, Q2: an expression that is none stands as ? alone, or what in it is none.
func TestShowNoExpression(t *testing.T) {
	for _, n := range []api.Node{{}, t0, of("?"), of("from", a), item("a", b), on("a", "b"), by("a"), count, distinct(t0), of("count"), named("null", "x"), of("+", a), of("neg"), of("col", a), named("text", times("x", 201)), filter(t0, a)} {
		shown(t, filter(t0, n), "filter(t, ?)")
		shown(t, filter(t0, of("not", n)), "filter(t, not ?)")
		shown(t, filter(t0, of("<", of("*", a, n), b)), "filter(t, a * ? < b)")
		shown(t, project(t0, item("a", n), item("b", one)), "project(t, a = ?, b = 1)")
		shown(t, project(t0, item("a", one), item("b", of("-", n, one))), "project(t, a = 1, b = ? - 1)")
	}
}

// P10.1, Q2: with a Kid too many or too few, or with a Text that its Op has not, a query is ? as a whole.
func TestShowWrong(t *testing.T) {
	i, o, c := item("a", b), on("a", "b"), count
	for _, n := range []api.Node{
		of("from", t0), named("from", "t", t0), named("from", "t", a), named("from", "t", api.Node{}),
		of("filter"), of("filter", t0), of("filter", a), of("filter", t0, a, b), of("filter", t0, u0, a), of("filter", t0, a, api.Node{}), named("filter", "x", t0, a), named("filter", "filter", t0, a),
		of("project"), of("project", t0), of("project", i), named("project", "x", t0, i), of("project", t0, u0), of("project", t0, a), of("project", t0, i, a), of("project", t0, i, t0), of("project", t0, t0, i), of("project", t0, o), of("project", t0, c), of("project", t0, i, api.Node{}), of("project", t0, by()),
		of("project", t0, named("item", "a")), of("project", t0, named("item", "a", b, b)), of("project", t0, i, named("item", "a")), of("project", t0, named("Item", "a", b)),
		of("join"), of("join", t0), of("join", t0, u0), of("join", o), of("join", t0, o), named("join", "x", t0, u0, o), of("join", t0, u0, t0), of("join", t0, u0, u0, o), of("join", t0, u0, o, u0), of("join", t0, u0, o, a), of("join", t0, u0, i), of("join", t0, u0, c), of("join", t0, u0, o, api.Node{}), of("join", t0, u0, a),
		of("join", t0, u0, named("on", "a")), of("join", t0, u0, named("on", "a", b, b)), of("join", t0, u0, named("on", "a", one)), of("join", t0, u0, named("on", "a", t0)), of("join", t0, u0, named("on", "a", named("col", "b", a))), of("join", t0, u0, o, named("on", "a", of("null"))), of("join", t0, u0, named("on", "a", api.Node{})),
		of("union"), of("union", t0), of("union", a), named("union", "x", t0, u0), named("union", "t", t0, u0, t0),
		of("distinct"), of("distinct", t0, u0), of("distinct", t0, a), named("distinct", "x", t0), of("distinct", t0, api.Node{}),
		of("group"), of("group", t0), of("group", t0, by()), of("group", t0, by("a")), of("group", t0, c), of("group", t0, c, c), of("group", by(), c), named("group", "x", t0, by(), c), of("group", t0, by(), by(), c), of("group", t0, by(), c, by()), of("group", t0, a, c), of("group", t0, u0, c), of("group", t0, api.Node{}, c), of("group", t0, by(), c, api.Node{}), of("group", t0, by(), u0), of("group", t0, by(), i), of("group", t0, by(), o), of("group", t0, by("a"), c, col("n")),
		of("group", t0, named("by", "x"), c), of("group", t0, named("by", "x", a), c), of("group", t0, named("by", "by", a, b), c), of("group", t0, of("by", one), c), of("group", t0, of("by", a, t0), c), of("group", t0, of("by", a, api.Node{}), c), of("group", t0, of("by", named("col", "a", b)), c), of("group", t0, of("by", of("by")), c), of("group", t0, of("By"), c),
		of("group", t0, by(), named("agg", "n")), of("group", t0, by(), named("agg", "n", of("count"), of("count"))), of("group", t0, by(), named("agg", "n", of("avg"))), of("group", t0, by(), named("agg", "n", named("avg", "a"))), of("group", t0, by(), named("agg", "n", a)), of("group", t0, by(), named("agg", "n", named("count", "a"))), of("group", t0, by(), named("agg", "n", of("count", a))), of("group", t0, by(), named("agg", "n", named("sum", "a", b))), of("group", t0, by(), named("agg", "n", of("min", a))), of("group", t0, by(), named("agg", "n", of("max", a, b))), of("group", t0, by(), named("agg", "n", api.Node{})), of("group", t0, by(), c, named("agg", "n", of("Count"))), of("group", t0, by(), named("agg", "n", c)),
	} {
		shown(t, n, "?")
		// It is ? as a whole, and nothing about it is.
		shown(t, distinct(n), "distinct(?)")
		shown(t, join(n, t0, o), "join(?, t, a = b)")
		shown(t, filter(union(t0, n), a), "filter(union(t, ?), a)")
		shown(t, filter(t0, n), "filter(t, ?)")
	}
}

// change is a node with another one at the end of a path of places.
func change(n api.Node, path []int, to func(api.Node) api.Node) api.Node {
	if len(path) == 0 {
		return to(n)
	}
	n.Kids = slices.Clone(n.Kids)
	n.Kids[path[0]] = change(n.Kids[path[0]], path[1:], to)
	return n
}

// paths are those to all nodes in one, each behind that which it is in.
func paths(n api.Node, to []int) [][]int {
	all := [][]int{to}
	for i, k := range n.Kids {
		all = append(all, paths(k, append(slices.Clone(to), i))...)
	}
	return all
}

// at is the node at the end of a path.
func at(n api.Node, path []int) api.Node {
	for _, i := range path {
		n = n.Kids[i]
	}
	return n
}

// broken are a node that is none any more, each time for another reason.
func broken(n api.Node) []api.Node {
	all := []api.Node{{}, {Op: "?", Text: n.Text, Kids: n.Kids}, {Op: n.Op + " ", Text: n.Text, Kids: n.Kids}, {Op: "table", Text: n.Text, Kids: n.Kids}}
	if !slices.Contains([]string{"from", "col", "num", "text", "item", "on", "agg", "sum", "min", "max"}, n.Op) {
		all = append(all, api.Node{Op: n.Op, Text: "x", Kids: n.Kids})
	}
	if n.Op != "union" {
		all = append(all, api.Node{Op: n.Op, Text: n.Text, Kids: append(slices.Clone(n.Kids), t0)})
	}
	if n.Op != "by" {
		least := map[string]int{"union": 2, "project": 2, "join": 3, "group": 3}[n.Op]
		if least == 0 {
			least = len(n.Kids)
		}
		if least > 0 {
			all = append(all, api.Node{Op: n.Op, Text: n.Text}, api.Node{Op: n.Op, Text: n.Text, Kids: n.Kids[:least-1]})
		}
	}
	return all
}

// P10.1, Q2: in each sample each node once is none: then the query that it is, or the expression, or the query of which it is a part, is shown as ?, and the rest as ever.
func TestShowBroken(t *testing.T) {
	for _, s := range samples() {
		for _, path := range paths(s.node, nil) {
			// Where the ? stands: a query's node, or an expression's, stands for itself, each part for the query about it.
			hole, mark := path, from("?")
			n := at(s.node, hole)
			for !slices.Contains(append([]string{"from"}, forms...), n.Op) && !inExpression(s.node, hole) {
				hole = hole[:len(hole)-1]
				n = at(s.node, hole)
			}
			if inExpression(s.node, hole) {
				mark = col("?")
			}
			want := query.Show(change(s.node, hole, func(api.Node) api.Node { return mark }))
			for _, b := range broken(at(s.node, path)) {
				shown(t, change(s.node, path, func(api.Node) api.Node { return b }), want)
			}
		}
	}
}

// inExpression tells whether a path leads to a filter's or an item's expression, or on.
func inExpression(n api.Node, path []int) bool {
	for _, i := range path {
		if n.Op == "item" || n.Op == "filter" && i == 1 {
			return true
		}
		n = n.Kids[i]
	}
	return false
}

// trees are all queries that are nested so deep at most, of some tables, expressions and parts.
func trees(deep int) []api.Node {
	all := []api.Node{t0, from("filter")}
	if deep == 1 {
		return all
	}
	kids := trees(deep - 1)
	exprs := []api.Node{a, of("or", of("not", a), of("<", of("-", a, of("-", b, one)), named("text", ", ')")))}
	for _, q := range kids {
		all = append(all, distinct(q), group(q, by(), count), group(q, by(), agg("by", "sum", "by"), count), group(q, by("by"), agg("by", "min", "a")), group(q, by("a", "by", "b"), count, agg("by", "max", "count")))
		for _, e := range exprs {
			all = append(all, filter(q, e), project(q, item("by", e)), project(q, item("a", e), item("join", e), item("a", a)))
		}
		for _, p := range kids {
			all = append(all, union(q, p), union(q, p, q), join(q, p, on("a", "by")), join(p, q, on("a", "b"), on("on", "a")))
		}
	}
	return all
}

// P10.2: the text of a query's node is a query with that node.
func TestThereAndBack(t *testing.T) {
	for _, n := range trees(3) {
		s := query.Show(n)
		m, place, e := query.Parse(s)
		if e != api.OK || place != 0 || !expr.Same(m, n) || query.Show(m) != s {
			t.Fatalf("Parse(%q): %v, %d, %d, not %v", s, m, place, e, n)
		}
	}
	// However a text was written, its node's text has its node.
	for _, s := range []string{"t", "filter ( t,((a))or b )", "project(t,a=(b),c=- -1)", "join(\nfilter(t,007=a),distinct(u)\n,a=b,c=d)", "union(t,t,t,union(u,u))", "group(t,by by by,by=count(),n=sum(by))", "group( t , by = max( a ) )"} {
		n, _, e := query.Parse(s)
		if m, _, f := query.Parse(query.Show(n)); e != api.OK || f != api.OK || !expr.Same(n, m) {
			t.Errorf("%q is %v, shown as %q", s, n, query.Show(n))
		}
	}
}

// P10.2: the same of queries that follow the grammar by chance, those too that are nested deeper than Parse takes.
func TestThereAndBackFar(t *testing.T) {
	r := document()
	next := chance()
	deepest := 0
	for range 3000 {
		n, _, e := query.Read(words(t, joined(made(r, "Query", 0, next))), 0)
		s := query.Show(n)
		m, k, f := query.Read(words(t, s), 0)
		if e != api.OK || f != api.OK || k != len(words(t, s)) || !expr.Same(n, m) {
			t.Fatalf("Read(%q, 0): %v, %d, %d, not %v", s, m, k, f, n)
		}
		deepest = max(deepest, expr.Deep(n))
	}
	if deepest <= api.MaxDeep {
		t.Errorf("none is deeper than %d", deepest)
	}
	name, quote := times("z", 20), named("text", times("'", 200))
	for _, n := range []api.Node{from(name), filter(from(name), quote), project(from(name), item(name, quote), item("b", named("num", "9223372036854775807"))), join(from(name), from(name), on(name, name)), group(from(name), by(name, name), agg(name, "sum", name))} {
		if m, _, e := query.Parse(query.Show(n)); e != api.OK || !expr.Same(m, n) {
			t.Errorf("Parse(%q): %v, %d", query.Show(n), m, e)
		}
	}
}
