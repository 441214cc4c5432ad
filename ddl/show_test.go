package ddl_test

import (
	"slices"
	"testing"

	"instar/api"
	"instar/ddl"
	"instar/expr"
	"instar/query"
)

// shown holds a node's text against the one that it should have.
func shown(t *testing.T, n api.Node, want string) {
	t.Helper()
	if s := ddl.Show(n); s != want {
		t.Errorf("Show(%v): %q, not %q", n, cut(s), cut(want))
	}
}

// P11.1, D1: the texts of statements of each form: where blanks stand, and where not.
func TestShow(t *testing.T) {
	for _, s := range samples() {
		shown(t, s.node, s.text)
	}
	shown(t, add("t", bools, null), "alter t add c bool")
	shown(t, add("t", column("null", "null"), null), "alter t add null null")
	shown(t, named("split", "t", t0, t0, of("not", of("or", a, of("-", a, of("-", b, one))))), "split t to t , t where not (a or a - (b - 1))")
	shown(t, named("create view", "v", of("filter", of("distinct", t0), of("neg", below("1")))), "create view v = filter(distinct(t), -(-1))")
	// A list without elements may be nil or not.
	none := []api.Node{}
	shown(t, named("drop table", "t", none...), "drop table t")
	shown(t, add("t", named("column", "c", named("kind", "bool", none...)), of("neg", named("num", "1", none...))), "alter t add c bool = -1")
	shown(t, add("t", bools, api.Node{Op: "null", Kids: none}), "alter t add c bool")
	shown(t, named("merge", "v", named("from", "t", none...), u0), "merge t , u to v")
	// What Text a name, a kind or a number has is not asked: it is shown as it stands.
	for _, s := range []string{"", "null", "a b", "1", "(", "?", "to", times("x", 30), times("1", 30), "\xff"} {
		c := column(s, s)
		for in, n := range map[string]api.Node{
			"create table " + s + "(" + s + " " + s + ", " + s + " " + s + ")": named("create table", s, c, c),
			"drop table " + s:                                         named("drop table", s),
			"drop view " + s:                                          named("drop view", s),
			"alter " + s + " add " + s + " " + s:                      add(s, c, null),
			"alter " + s + " add " + s + " " + s + " = " + s:          add(s, c, number(s)),
			"alter " + s + " add " + s + " " + s + " = -" + s:         add(s, c, below(s)),
			"alter " + s + " drop " + s:                               named("drop", s, col(s)),
			"alter " + s + " rename " + s + " to " + s:                named("rename", s, col(s), col(s)),
			"alter " + s + " widen " + s + " to " + s:                 named("widen", s, col(s), kind(s)),
			"split " + s + " to " + s + " , " + s + " where " + s:     named("split", s, from(s), from(s), col(s)),
			"merge " + s + " , " + s + " to " + s:                     named("merge", s, from(s), from(s)),
			"create view " + s + " = " + s:                            named("create view", s, from(s)),
			"redefine view " + s + " = filter(" + s + ", -" + s + ")": named("redefine view", s, of("filter", from(s), below(s))),
		} {
			shown(t, n, in)
		}
	}
}

// P11.1, D1: a node that is no statement's is ?: of no Op, of a query's or an expression's, or of what stands in a statement alone.
func TestShowNoStatement(t *testing.T) {
	for _, op := range slices.Concat(own, kinds, []string{"", "?", "create", "table", "view", "alter", "redefine", "to", "where", "createtable", "create  table", "Create table", "create table ", " drop", "Drop", "adds", "alter add", "alter drop", "drop column", "rename table", "from", "col", "column", "kind", "num", "text", "neg", "is null", "+", "filter", "distinct", "union", "item", "\x00"}) {
		for _, s := range []string{"", "t"} {
			for _, l := range [][]api.Node{nil, {a}, {t0}, {int32s}, {a, b}, {a, kind("bool")}, {bools, null}, {t0, u0}, {t0, u0, a}, {of("distinct", t0)}} {
				shown(t, api.Node{Op: op, Text: s, Kids: l}, "?")
			}
		}
	}
	shown(t, api.Node{}, "?")
	for _, s := range samples() {
		shown(t, of("", s.node), "?")
		for _, k := range s.node.Kids {
			shown(t, k, "?")
		}
		// A statement is no part of one, nor a query or an expression.
		shown(t, named("create table", "t", s.node), "?")
		shown(t, named("rename", "t", a, s.node), "?")
		shown(t, named("merge", "t", s.node, u0), "?")
		shown(t, add("t", bools, s.node), "?")
		shown(t, named("create view", "v", s.node), "create view v = ?")
		shown(t, named("split", "t", t0, u0, s.node), "split t to t , u where ?")
	}
}

// P11.1, D1: with a Kid too many, too few, or of another kind, a statement is ? as a whole.
func TestShowWrong(t *testing.T) {
	k, i := kind("bool"), kind("int64")
	for _, n := range []api.Node{
		named("create table", "t"), named("create table", "t", a), named("create table", "t", k), named("create table", "t", int32s, a), named("create table", "t", a, int32s), named("create table", "t", int32s, null), named("create table", "t", int32s, api.Node{}), named("create table", "t", int32s, bools, t0), named("create table", "t", t0),
		named("create table", "t", int32s, named("column", "a")), named("create table", "t", named("column", "a", k, k)), named("create table", "t", named("column", "a", a)), named("create table", "t", named("column", "a", of("bool"))), named("create table", "t", named("column", "a", api.Node{})), named("create table", "t", named("Column", "a", k)), named("create table", "t", named("col", "a", k)), named("create table", "t", named("column", "a", named("kind", "bool", k))), named("create table", "t", bools, named("column", "a", named("kind", "bool", api.Node{}))), named("create table", "t", named("column", "a", int32s)), named("create table", "t", named("", "a", k)),
		named("drop table", "t", a), named("drop table", "t", t0), named("drop table", "t", api.Node{}), named("drop table", "t", null, null), named("drop view", "v", t0), named("drop view", "v", api.Node{}), named("drop view", "v", a, b),
		named("add", "t"), named("add", "t", bools), named("add", "t", null), named("add", "t", null, bools), named("add", "t", bools, null, null), named("add", "t", bools, bools), named("add", "t", bools, bools, null), named("add", "t", a, null), named("add", "t", k, null), named("add", "t", api.Node{}, null), named("add", "t", bools, null, api.Node{}), named("add", "t", named("column", "c"), one), named("add", "t", named("column", "c", k, k), one), named("add", "t", named("column", "c", a), one), named("add", "t", named("column", "c", named("kind", "bool", a)), one),
		named("drop", "t"), named("drop", "t", t0), named("drop", "t", k), named("drop", "t", int32s), named("drop", "t", a, b), named("drop", "t", a, api.Node{}), named("drop", "t", api.Node{}), named("drop", "t", named("col", "a", b)), named("drop", "t", named("col", "a", api.Node{})), named("drop", "t", one), named("drop", "t", text("a")), named("drop", "t", named("Col", "a")),
		named("rename", "t"), named("rename", "t", a), named("rename", "t", a, b, a), named("rename", "t", a, t0), named("rename", "t", t0, b), named("rename", "t", a, k), named("rename", "t", a, api.Node{}), named("rename", "t", api.Node{}, b), named("rename", "t", named("col", "a", b), b), named("rename", "t", a, named("col", "b", b)), named("rename", "t", a, b, api.Node{}), named("rename", "t", a, int32s),
		named("widen", "t"), named("widen", "t", a), named("widen", "t", i), named("widen", "t", i, a), named("widen", "t", a, i, i), named("widen", "t", a, b), named("widen", "t", i, i), named("widen", "t", a, of("int64")), named("widen", "t", a, api.Node{}), named("widen", "t", api.Node{}, i), named("widen", "t", named("col", "a", a), i), named("widen", "t", a, named("kind", "int64", i)), named("widen", "t", a, i, api.Node{}), named("widen", "t", t0, i),
		named("split", "t"), named("split", "t", t0), named("split", "t", t0, u0), named("split", "t", a), named("split", "t", t0, a), named("split", "t", a, t0, u0), named("split", "t", t0, a, u0), named("split", "t", t0, u0, a, a), named("split", "t", a, u0, a), named("split", "t", t0, b, a), named("split", "t", api.Node{}, u0, a), named("split", "t", t0, api.Node{}, a), named("split", "t", t0, u0, a, api.Node{}), named("split", "t", named("from", "t", a), u0, a), named("split", "t", t0, named("from", "u", t0), a), named("split", "t", t0, named("From", "u"), a),
		named("merge", "t"), named("merge", "t", t0), named("merge", "t", t0, u0, t0), named("merge", "t", t0, a), named("merge", "t", a, u0), named("merge", "t", t0, api.Node{}), named("merge", "t", api.Node{}, u0), named("merge", "t", t0, u0, api.Node{}), named("merge", "t", named("from", "t", u0), u0), named("merge", "t", t0, named("from", "u", api.Node{})), named("merge", "t", a, b), named("merge", "t", of("distinct", t0), u0),
		named("create view", "v"), named("create view", "v", t0, u0), named("create view", "v", t0, api.Node{}), named("redefine view", "v"), named("redefine view", "v", t0, t0), named("redefine view", "v", of("distinct", t0), a),
		// A form's word that is another one's.
		named("drop table", "t", int32s), named("create table", "t", a, b), named("drop view", "v", a), named("widen", "t", int32s), named("rename", "t", t0, u0),
	} {
		shown(t, n, "?")
	}
}

// P11.1, D1: an add with what is no Literal by its Op and its Kids is ? as a whole; one with a Literal that is shown as ? by its Text is ? there alone.
func TestShowLiteral(t *testing.T) {
	for _, n := range []api.Node{
		{}, a, t0, kind("bool"), of("?"), of("bool"), of("+", one, one), of("+"), of("not", of("true")), of("is null", null), of("Null"), named("Num", "1"), of("or", one, one),
		named("num", "1", one), named("num", "1", api.Node{}), named("text", "x", one), named("text", "x", api.Node{}), of("true", one), of("true", api.Node{}), of("false", one), of("false", of("false")), of("null", null), of("null", api.Node{}),
		of("neg"), of("neg", one, one), of("neg", of("neg", one)), of("neg", text("1")), of("neg", null), of("neg", of("true")), of("neg", of("false")), of("neg", a), of("neg", api.Node{}), of("neg", named("num", "1", one)), of("neg", one, api.Node{}), of("neg", of("+", one, one)), named("neg", "x"), named("null", "x", one), named("true", "x", one),
	} {
		shown(t, add("t", bools, n), "?")
	}
	for _, n := range []api.Node{named("true", "x"), named("true", "true"), named("false", "x"), named("null", "x"), named("null", "null"), named("neg", "x", one), named("neg", "-", one), text(times("x", 201)), text(times("'", 201)), text(times("x", 1000))} {
		shown(t, add("t", bools, n), "alter t add c bool = ?")
	}
	shown(t, add("t", bools, text(times("x", 200))), "alter t add c bool = '"+times("x", 200)+"'")
	shown(t, add("t", bools, text(times("'", 200))), "alter t add c bool = '"+times("'", 400)+"'")
	shown(t, add("t", bools, text("")), "alter t add c bool = ''")
	shown(t, add("t", bools, number("007")), "alter t add c bool = 007")
	shown(t, add("t", bools, number(times("9", 25))), "alter t add c bool = "+times("9", 25))
	shown(t, add("t", bools, below("0")), "alter t add c bool = -0")
}

// P11.1, D1: a query stands as layer 10 shows it, an expression as layer 9 does: what is none, or what in it is none, is ? alone.
func TestShowInner(t *testing.T) {
	for _, n := range []api.Node{
		{}, t0, a, one, null, of("?"), of("distinct"), of("distinct", a), of("distinct", t0), named("distinct", "x", t0), of("filter", t0, of("+", a)), of("union", t0, api.Node{}, u0), of("union", t0), named("from", "t", u0), of("not", a), of("not", t0), of("not"), of("and", a, of("or", b, api.Node{})), named("null", "x"), text(times("x", 201)), int32s, kind("bool"), of("neg", of("neg", one)), named("col", "a", b), of("group", t0, of("by"), a),
	} {
		shown(t, named("create view", "v", n), "create view v = "+query.Show(n))
		shown(t, named("redefine view", "v", n), "redefine view v = "+query.Show(n))
		shown(t, named("split", "v", t0, u0, n), "split v to t , u where "+expr.Show(n))
	}
	shown(t, named("create view", "v", api.Node{}), "create view v = ?")
	shown(t, named("create view", "v", a), "create view v = ?")
	shown(t, named("redefine view", "v", of("union", t0, a)), "redefine view v = union(t, ?)")
	shown(t, named("redefine view", "v", of("filter", t0, of("<", a, t0))), "redefine view v = filter(t, a < ?)")
	shown(t, named("split", "v", t0, u0, api.Node{}), "split v to t , u where ?")
	shown(t, named("split", "v", t0, u0, t0), "split v to t , u where ?")
	shown(t, named("split", "v", t0, u0, of("and", a, of("not"))), "split v to t , u where a and ?")
}

// change is a node with another one at the end of a path of places.
func change(n api.Node, path []int, to func(api.Node) api.Node) api.Node {
	if len(path) == 0 {
		return to(n)
	}
	n.Kids = slices.Clone(n.Kids)
	n.Kids[path[0]] = change(n.Kids[path[0]], path[1:], to)
	return n
}

// P11.1, D1: each form, and each column, kind, col, from and literal in it, with another Op, a Kid more or one less.
func TestShowBroken(t *testing.T) {
	for _, s := range samples() {
		paths := [][]int{nil}
		if s.node.Op != "create view" && s.node.Op != "redefine view" {
			for i, k := range s.node.Kids {
				if s.node.Op == "split" && i == 2 {
					break
				}
				paths = append(paths, []int{i})
				if len(k.Kids) > 0 {
					paths = append(paths, []int{i, 0})
				}
			}
		}
		for _, p := range paths {
			for _, op := range []string{"", "?", "x", "create", "is null"} {
				shown(t, change(s.node, p, func(n api.Node) api.Node { n.Op = op; return n }), "?")
			}
			shown(t, change(s.node, p, func(api.Node) api.Node { return api.Node{} }), "?")
			for _, more := range []api.Node{{}, a, t0, one} {
				shown(t, change(s.node, p, func(n api.Node) api.Node {
					n.Kids = append(slices.Clone(n.Kids), more)
					return n
				}), "?")
			}
			shown(t, change(s.node, p, func(n api.Node) api.Node {
				if n.Kids = n.Kids[:max(0, len(n.Kids)-1)]; n.Op == "create table" || len(n.Kids) == 0 {
					n = api.Node{Op: n.Op + "s"}
				}
				return n
			}), "?")
		}
	}
}

// P11.2: the text of a statement's node is a statement with that node.
func TestThereAndBack(t *testing.T) {
	for _, s := range samples() {
		n, _, _ := ddl.Parse(s.text)
		is(t, ddl.Show(n), n)
	}
	for _, s := range []string{"create\ntable t ( a int32,b text )", "alter t add c bool = null", "alter t add c int64 = - 007", "alter t add c text = ''''", "split t to x,y where (a) - (b - (c)) = -(-1) or (not (a))", "merge merge,to to to", "create view v=filter(distinct(t),((a)))", "redefine view view = group(t, by by, by = count())", "alter alter add add bool", "create table table(table bool, bool text)"} {
		n, at, e := ddl.Parse(s)
		if e != api.OK {
			t.Errorf("Parse(%q): %d, %d", s, at, e)
		}
		is(t, ddl.Show(n), n)
	}
}
