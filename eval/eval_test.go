package eval_test

import (
	"math"
	"slices"
	"strconv"
	"strings"
	"testing"

	"instar/api"
	"instar/eval"
	"instar/plan"
	"instar/query"
	"instar/row"
	"instar/zset"
)

// The greatest, and the least, number of 64 bits.
const (
	top    = math.MaxInt64
	bottom = math.MinInt64
)

// values is a row of what Go's values stand for: nil for null, an int for an Int32, an int64 for an Int64.
func values(l ...any) api.Row {
	r := make(api.Row, len(l))
	for i, x := range l {
		switch x := x.(type) {
		case bool:
			r[i].Kind = api.Bool
			if x {
				r[i].N = 1
			}
		case int:
			r[i] = api.Value{Kind: api.Int32, N: int64(x)}
		case int64:
			r[i] = api.Value{Kind: api.Int64, N: x}
		case string:
			r[i] = api.Value{Kind: api.Text, S: x}
		}
	}
	return r
}

// item is a row of such values, with a weight.
func item(weight int64, l ...any) api.Item {
	return api.Item{Row: values(l...), Weight: weight}
}

// data is what a table has.
func data(table string, l ...api.Item) api.Data {
	return api.Data{Table: table, Items: l}
}

// set is items' sum.
func set(t *testing.T, l ...api.Item) zset.Set {
	t.Helper()
	s, e := zset.Of(l...)
	if e != api.OK {
		t.Fatalf("zset.Of(%s): %d", show(l), e)
	}
	return s
}

// show is items' text: of each its row, `*`, its weight.
func show(s []api.Item) string {
	var l []string
	for _, x := range s {
		l = append(l, row.Show(x.Row)+"*"+strconv.FormatInt(x.Weight, 10))
	}
	return strings.Join(l, " ")
}

// cols are columns from a text like `a int32, b text`.
func cols(s string) []api.Column {
	kinds := map[string]api.Kind{"bool": api.Bool, "int32": api.Int32, "int64": api.Int64, "text": api.Text}
	var l []api.Column
	for i, c := range strings.Split(s, ", ") {
		name, kind, _ := strings.Cut(c, " ")
		l = append(l, api.Column{ID: 70 - 3*i, Name: name, Kind: kinds[kind]})
	}
	return l
}

// tables are those of which the tests ask.
func tables() []api.Table {
	return []api.Table{
		{Name: "t", Cols: cols("a int32, b int64")},
		{Name: "u", Cols: cols("c int32, d text")},
		{Name: "v", Cols: cols("e int64, f bool")},
		{Name: "w", Cols: cols("g text, h bool, i int32, j int64")},
		{Name: "n", Cols: cols("k int64")},
	}
}

// planned is a query's plan.
func planned(t *testing.T, s string) api.Plan {
	t.Helper()
	n, at, e := query.Parse(s)
	if e != api.OK {
		t.Fatalf("Parse(%q): %d, %d", s, at, e)
	}
	p, e := plan.Of(n, tables()...)
	if e != api.OK {
		t.Fatalf("plan.Of(%q): %d", s, e)
	}
	return p
}

// stepped is what the steps of a plan, and of those in it, come to, one by one.
func stepped(p api.Plan, db ...api.Data) (zset.Set, api.Errno) {
	if p.Op == "from" {
		return eval.Of(p, db...)
	}
	var in []zset.Set
	for _, k := range p.Kids {
		s, e := stepped(k, db...)
		if e != api.OK {
			return nil, e
		}
		in = append(in, s)
	}
	return eval.Step(p, in...)
}

// comes holds what a query comes to, at once and step by step, against what it should, as a text; a set comes of it, whose rows fit the columns.
func comes(t *testing.T, s, want string, db ...api.Data) {
	t.Helper()
	p := planned(t, s)
	var kinds []api.Kind
	for _, c := range p.Cols {
		kinds = append(kinds, c.Kind)
	}
	for _, of := range []func(api.Plan, ...api.Data) (zset.Set, api.Errno){eval.Of, stepped} {
		out, e := of(p, db...)
		if show(out) != want || e != api.OK {
			t.Errorf("%s: %s, %d, not %s", s, show(out), e, want)
		}
		if !out.Right() || slices.ContainsFunc(out, func(x api.Item) bool { return !row.Fits(x.Row, kinds...) }) {
			t.Errorf("%s: %s is no set of such rows", s, show(out))
		}
	}
}

// wrong holds what is wrong with what a query comes to against what should be.
func wrong(t *testing.T, s string, want api.Errno, db ...api.Data) {
	t.Helper()
	p := planned(t, s)
	for _, of := range []func(api.Plan, ...api.Data) (zset.Set, api.Errno){eval.Of, stepped} {
		if out, e := of(p, db...); out != nil || e != want {
			t.Errorf("%s: %s, %d, not %d", s, show(out), e, want)
		}
	}
}

// P15.1, V4: a table's items are summed, and put in order; rows with the weight 0 are not there.
func TestFrom(t *testing.T) {
	comes(t, "t", "(null, null)*-1 (1, 9)*2 (2, 9)*1", data("t", item(1, 2, int64(9)), item(2, 1, int64(9)), item(-1, nil, nil)))
	comes(t, "t", "(1, 9)*5", data("t", item(2, 1, int64(9)), item(4, 1, int64(9)), item(-1, 1, int64(9))))
	comes(t, "t", "(1, null)*3", data("t", item(2, 1, int64(9)), item(3, 1, nil), item(-2, 1, int64(9))))
	comes(t, "t", "", data("t", item(2, 1, int64(9)), item(-2, 1, int64(9)), item(0, 7, int64(7))))
	comes(t, "t", "(1, 9)*9223372036854775807 (2, 9)*-9223372036854775808", data("t", item(top, 1, int64(9)), item(bottom, 2, int64(9))))
	comes(t, "w", "(null, true, null, -5)*1 ('', false, 0, 0)*1 ('it''s', null, -2147483648, 9223372036854775807)*-3", data("w", item(-3, "it's", nil, math.MinInt32, int64(top)), item(1, "", false, 0, int64(0)), item(1, nil, true, nil, int64(-5))))
	// On the way a weight may be none.
	comes(t, "n", "(1)*9223372036854775807", data("n", item(top, int64(1)), item(top, int64(1)), item(-top, int64(1))))
	comes(t, "n", "(1)*-9223372036854775808", data("n", item(bottom, int64(1)), item(-1, int64(1)), item(1, int64(1))))
}

// P15.1, V4: of a name the first data are meant; without any there are no items; those of other names don't matter, whatever they are.
func TestNames(t *testing.T) {
	one, two := item(1, 1, int64(1)), item(2, 2, int64(2))
	bad := []api.Item{item(1), item(top, 1, int64(1)), item(top, 1, int64(1)), {Row: api.Row{{Kind: 9}}}}
	comes(t, "t", "")
	comes(t, "t", "", data("u", bad...))
	comes(t, "t", "", data("", one), data("T", one), data("t ", one), data("tt", one))
	comes(t, "t", "", data("t"))
	comes(t, "t", "", data("t"), data("t", one))
	comes(t, "t", "(1, 1)*1", data("t", one), data("t", two))
	comes(t, "t", "(2, 2)*2", data("u", one), data("t", two), data("t", one), data("t"))
	comes(t, "t", "(1, 1)*1", data("u", bad...), data("t", one), data("t", bad...), data("", bad...))
	comes(t, "union(t, t)", "(2, 2)*4", data("t", two), data("t", one))
	for _, s := range []string{"t", "filter(t, a = a)", "filter(t, b + 9223372036854775807 > 0)", "project(t, z = b * b)", "join(t, u, a = c)", "join(u, t, c = a)", "union(t, t, t, t)", "distinct(t)", "group(t, n = count())", "group(t, by a, n = count(), s = sum(b))", "group(t, s = sum(b), m = min(a))"} {
		comes(t, s, "", data("u", item(1, 1, "x")))
		comes(t, s, "", data("t", item(0, 1, int64(5))), data("u"), data("t", one))
	}
}

// P15.1, V4: the rows for which the expression is true; those for which it is false, or null, are not there.
func TestFilter(t *testing.T) {
	db := data("t", item(2, 1, int64(9)), item(-3, 2, nil), item(1, nil, int64(-4)), item(top, 3, int64(7)), item(bottom, nil, nil))
	all := "(null, null)*-9223372036854775808 (null, -4)*1 (1, 9)*2 (2, null)*-3 (3, 7)*9223372036854775807"
	for s, want := range map[string]string{
		"true": all, "false": "", "null": "", "not null": "", "not false": all, "null = null": "", "null is null": all,
		"a = a": "(1, 9)*2 (2, null)*-3 (3, 7)*9223372036854775807", "a > 1": "(2, null)*-3 (3, 7)*9223372036854775807", "not a > 1": "(1, 9)*2",
		"a is null": "(null, null)*-9223372036854775808 (null, -4)*1", "b = 9": "(1, 9)*2", "b < 0 or a > 2": "(null, -4)*1 (3, 7)*9223372036854775807",
		"a > 1 and b > 1": "(3, 7)*9223372036854775807", "a > 1 and null": "", "a > 1 or null": "(2, null)*-3 (3, 7)*9223372036854775807", "b is null and a is null": "(null, null)*-9223372036854775808",
		"a = b - 4": "(3, 7)*9223372036854775807",
	} {
		comes(t, "filter(t, "+s+")", want, db)
	}
	comes(t, "filter(v, f)", "(1, true)*1", data("v", item(1, int64(1), true), item(1, int64(2), false), item(1, int64(3), nil)))
	comes(t, "filter(v, not f)", "(2, false)*1", data("v", item(1, int64(1), true), item(1, int64(2), false), item(1, int64(3), nil)))
}

// P15.1, V4: of each row the expressions' values, with its weight; rows that become one are summed.
func TestProject(t *testing.T) {
	db := data("t", item(2, 1, int64(9)), item(-3, 2, nil), item(1, 1, int64(-4)), item(5, 3, int64(9)))
	for s, want := range map[string]string{
		"a = a": "(1)*3 (2)*-3 (3)*5", "b = b": "(null)*-3 (-4)*1 (9)*7", "x = b, y = a": "(null, 2)*-3 (-4, 1)*1 (9, 1)*2 (9, 3)*5", "a = b, b = a": "(null, 2)*-3 (-4, 1)*1 (9, 1)*2 (9, 3)*5",
		"z = 1": "(1)*5", "z = 'x', y = true": "('x', true)*5", "z = a * 0": "(0)*5", "z = b * 0": "(null)*-3 (0)*8", "z = a + b": "(null)*-3 (-3)*1 (10)*2 (12)*5",
		"z = b is null": "(false)*8 (true)*-3", "z = a > 1 or b > 1": "(false)*1 (true)*4", "z = 3 - a, y = a, x = a": "(0, 3, 3)*5 (1, 2, 2)*-3 (2, 1, 1)*3",
		"z = a = 2 or a = 1": "(false)*5",
	} {
		comes(t, "project(t, "+s+")", want, db)
	}
	comes(t, "project(t, a = a)", "", data("t", item(2, 1, int64(9)), item(-2, 1, int64(8))))
	comes(t, "project(t, z = 0)", "(0)*9223372036854775807", data("t", item(top, 1, int64(1)), item(top, 1, int64(2)), item(-top, 1, int64(3))))
	comes(t, "project(t, z = 0)", "(0)*-9223372036854775808", data("t", item(bottom, 1, int64(1)), item(-1, 1, int64(2)), item(1, 1, int64(3))))
}

// P15.1, V4: each two rows that have the same at each pair's places, none of them null, one behind the other; their weights are multiplied.
func TestJoin(t *testing.T) {
	db := []api.Data{
		data("t", item(2, 1, int64(9)), item(-3, 1, nil), item(5, 2, int64(7)), item(1, nil, int64(7)), item(1, 4, int64(1))),
		data("u", item(7, 1, "x"), item(-1, 1, nil), item(3, 2, "y"), item(1, nil, "z"), item(1, 3, "z")),
		data("v", item(2, int64(9), true), item(3, int64(7), nil), item(1, nil, false), item(4, int64(7), true)),
	}
	comes(t, "join(t, u, a = c)", "(1, null, 1, null)*3 (1, null, 1, 'x')*-21 (1, 9, 1, null)*-2 (1, 9, 1, 'x')*14 (2, 7, 2, 'y')*15", db...)
	comes(t, "join(u, t, c = a)", "(1, null, 1, null)*3 (1, null, 1, 9)*-2 (1, 'x', 1, null)*-21 (1, 'x', 1, 9)*14 (2, 'y', 2, 7)*15", db...)
	comes(t, "join(t, v, b = e)", "(null, 7, 7, null)*3 (null, 7, 7, true)*4 (1, 9, 9, true)*4 (2, 7, 7, null)*15 (2, 7, 7, true)*20", db...)
	// With itself, by two pairs, and by one twice.
	self := func(on string) string { return "join(t, project(t, x = a, y = b), " + on + ")" }
	comes(t, self("a = x"), "(1, null, 1, null)*9 (1, null, 1, 9)*-6 (1, 9, 1, null)*-6 (1, 9, 1, 9)*4 (2, 7, 2, 7)*25 (4, 1, 4, 1)*1", db...)
	for _, on := range []string{"a = x, b = y", "b = y, a = x", "a = x, b = y, a = x"} {
		comes(t, self(on), "(1, 9, 1, 9)*4 (2, 7, 2, 7)*25 (4, 1, 4, 1)*1", db...)
	}
	comes(t, self("b = y"), "(null, 7, null, 7)*1 (null, 7, 2, 7)*5 (1, 9, 1, 9)*4 (2, 7, null, 7)*5 (2, 7, 2, 7)*25 (4, 1, 4, 1)*1", db...)
	// The pairs' columns are held crosswise, each by its place.
	cross := "join(project(t, p = b, q = b + 1), project(v, r = e, s = e - 1), p = s, q = r)"
	comes(t, cross, "(7, 8, 8, 7)*3 (9, 10, 10, 9)*-2", data("t", item(1, 1, int64(7)), item(2, 1, int64(9))), data("v", item(3, int64(8), true), item(-1, int64(10), nil), item(1, int64(7), nil)))
	// What is alike in one pair alone is no pair.
	two := "join(w, project(w, p = g, q = i), g = p, i = q)"
	comes(t, two, "('x', null, 1, null, 'x', 1)*4 ('y', null, 1, null, 'y', 1)*9", data("w", item(2, "x", nil, 1, nil), item(3, "y", nil, 1, nil), item(1, "y", nil, nil, nil), item(1, nil, nil, 1, nil), item(1, nil, nil, nil, nil)))
	// Null on one side, and on both; no two that are alike; nothing on one side.
	comes(t, "join(t, u, a = c)", "", data("t", item(1, nil, nil)), data("u", item(1, nil, nil), item(1, 0, "")))
	comes(t, "join(t, u, a = c)", "", data("t", item(1, 0, nil)), data("u", item(1, nil, nil)))
	comes(t, "join(t, u, a = c)", "", data("t", item(1, 1, nil), item(1, 2, nil)), data("u", item(1, 3, nil), item(1, 0, nil)))
	comes(t, "join(t, u, a = c)", "", db[0])
	comes(t, "join(t, u, a = c)", "", db[1])
	// Texts whose bytes could run into one another's.
	comes(t, "join(project(w, p = g, q = g), project(w, r = g, s = 'b'), p = r)", "('', '', '', 'b')*1 ('a', 'a', 'a', 'b')*1 ('a\x00', 'a\x00', 'a\x00', 'b')*1", data("w", item(1, "a", nil, nil, nil), item(1, "a\x00", nil, nil, nil), item(1, "", nil, nil, nil)))
	comes(t, "join(v, project(v, x = f), f = x)", "(1, false, false)*1 (2, true, true)*9", data("v", item(3, int64(2), true), item(1, int64(1), false), item(1, int64(1), nil), item(1, int64(3), false), item(-1, int64(3), false), item(0, int64(4), true), item(1, int64(5), nil), item(1, int64(6), nil), item(-1, int64(6), nil)), data("x"))
}

// P15.1, V4: the sum of two, and of many.
func TestUnion(t *testing.T) {
	db := []api.Data{
		data("t", item(2, 1, int64(9)), item(-3, 2, nil), item(1, nil, int64(7))),
		data("w", item(5, "", nil, 1, int64(9)), item(3, "", nil, 2, nil), item(1, "", nil, 4, int64(4))),
	}
	w := "project(w, x = i, y = j)"
	comes(t, "union(t, t)", "(null, 7)*2 (1, 9)*4 (2, null)*-6", db...)
	comes(t, "union(t, "+w+")", "(null, 7)*1 (1, 9)*7 (4, 4)*1", db...)
	comes(t, "union("+w+", t)", "(null, 7)*1 (1, 9)*7 (4, 4)*1", db...)
	comes(t, "union(t, t, "+w+", t)", "(null, 7)*3 (1, 9)*11 (2, null)*-6 (4, 4)*1", db...)
	comes(t, "union(union(t, "+w+"), union("+w+", t))", "(null, 7)*2 (1, 9)*14 (4, 4)*2", db...)
	comes(t, "union(t, "+w+")", "(null, 7)*1 (1, 9)*2 (2, null)*-3", db[0])
	comes(t, "union(n, n)", "(1)*9223372036854775806 (2)*-9223372036854775808", data("n", item(top/2, int64(1)), item(bottom/2, int64(2))))
	// On the way a weight may be none.
	comes(t, "union(n, n, project(v, x = e))", "(1)*9223372036854775807", data("n", item(top, int64(1))), data("v", item(-top, int64(1), nil)))
}

// P15.1, V4: the rows with a weight above 0, each once.
func TestDistinct(t *testing.T) {
	db := data("t", item(2, 1, int64(9)), item(-3, 2, nil), item(1, nil, int64(7)), item(top, 3, int64(1)), item(bottom, 3, int64(2)), item(0, 4, int64(1)), item(5, 5, int64(1)), item(-5, 5, int64(1)))
	comes(t, "distinct(t)", "(null, 7)*1 (1, 9)*1 (3, 1)*1", db)
	comes(t, "distinct(distinct(t))", "(null, 7)*1 (1, 9)*1 (3, 1)*1", db)
	comes(t, "distinct(project(t, a = a))", "(null)*1 (1)*1", db)
	comes(t, "project(distinct(t), a = a)", "(null)*1 (1)*1 (3)*1", db)
	comes(t, "distinct(union(t, t))", "(1, 9)*1", data("t", item(2, 1, int64(9)), item(-1, 1, int64(8))))
	comes(t, "distinct(n)", "", data("n", item(-1, int64(1)), item(bottom, int64(2))))
	comes(t, "distinct(n)", "")
}

// P15.1, V4: queries in queries, of all kinds.
func TestNested(t *testing.T) {
	db := []api.Data{
		data("t", item(2, 1, int64(9)), item(1, 1, int64(7)), item(3, 2, int64(5)), item(1, 3, nil)),
		data("u", item(1, 1, "x"), item(2, 2, "y"), item(1, 3, "y")),
	}
	comes(t, "group(join(t, u, a = c), by d, n = count(), s = sum(b), l = min(b), m = max(a))", "('x', 3, 25, 7, 1)*1 ('y', 7, 30, 5, 3)*1", db...)
	comes(t, "filter(group(t, by a, n = count()), n > 2)", "(1, 3)*1 (2, 3)*1", db...)
	comes(t, "group(group(t, by a, n = count()), by n, m = count(), s = sum(n))", "(1, 1, 1)*1 (3, 2, 6)*1", db...)
	comes(t, "distinct(project(join(filter(t, b > 5), u, a = c), z = d))", "('x')*1", db...)
	comes(t, "join(group(t, by a, n = count()), project(union(u, u), p = c, q = d), a = p)", "(1, 3, 1, 'x')*2 (2, 3, 2, 'y')*4 (3, 1, 3, 'y')*2", db...)
	comes(t, "union(project(group(t, s = sum(b)), z = s), project(t, z = b))", "(null)*1 (5)*3 (7)*1 (9)*2 (40)*1", db...)
}

// P15.1, V4: 2^16 plans, one in another.
func TestDeep(t *testing.T) {
	p := planned(t, "t")
	for i := range 1 << 16 {
		q := planned(t, []string{"distinct(t)", "filter(t, a = 1)", "project(t, a = a, b = b)"}[i%3])
		q.Kids[0] = p
		p = q
	}
	if s, e := eval.Of(p, data("t", item(2, 1, int64(9)), item(1, 2, int64(9)))); show(s) != "(1, 9)*1" || e != api.OK {
		t.Errorf("Of a deep one: %s, %d", show(s), e)
	}
	if s, e := eval.Of(p, data("t", item(1, 1))); s != nil || e != api.ErrRow {
		t.Errorf("Of a deep one: %s, %d", show(s), e)
	}
}

// P15.1, V4: many rows, of which a pair for each two is too much.
func TestMany(t *testing.T) {
	var l []api.Item
	for i := range 1 << 16 {
		l = append(l, item(1, i, int64(i/2)))
	}
	p := planned(t, "group(join(t, project(t, x = a, y = b), a = x), by b, n = count())")
	s, e := eval.Of(p, data("t", l...))
	if e != api.OK || len(s) != 1<<15 {
		t.Fatalf("Of many: %d rows, %d", len(s), e)
	}
	for i, x := range s {
		if !row.Same(x.Row, values(int64(i), int64(2))) || x.Weight != 1 {
			t.Fatalf("Of many: %s at %d", show(s[i:i+1]), i)
		}
	}
}
