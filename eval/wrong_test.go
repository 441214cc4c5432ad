package eval_test

import (
	"slices"
	"testing"

	"instar/api"
	"instar/eval"
	"instar/expr"
	"instar/zset"
)

// parsed is a text's expression.
func parsed(t *testing.T, s string) api.Node {
	t.Helper()
	n, at, e := expr.Parse(s)
	if e != api.OK {
		t.Fatalf("Parse(%q): %d, %d", s, at, e)
	}
	return n
}

// refused holds what is wrong with what a plan comes to against what should be.
func refused(t *testing.T, p api.Plan, want api.Errno, db ...api.Data) {
	t.Helper()
	if s, e := eval.Of(p, db...); s != nil || e != want {
		t.Errorf("Of(%v): %s, %d, not %d", p, show(s), e, want)
	}
}

// P15.1, V4: ErrRow of a row that does not fit the columns' kinds: in a value's kind, in a value that is not right, in its number, beside rows that do.
func TestRows(t *testing.T) {
	good := []api.Item{item(2, 1, int64(9)), item(1, nil, nil), item(-1, 2, int64(1))}
	for _, r := range []api.Row{
		nil, {}, values(1), values(nil), values(1, int64(9), nil), values(1, int64(9), 1), values(int64(1), int64(9)), values(1, 9), values("", int64(9)), values(1, ""), values(true, int64(9)), values(1, false), values(int64(9), 1),
		{{Kind: api.Int32, N: 1 << 31}, {}}, {{Kind: api.Int32, N: -1<<31 - 1}, {}}, {{N: 1}, {}}, {{S: "x"}, {}}, {{Kind: api.Int32, S: "x"}, {}}, {{Kind: 5}, {}}, {{Kind: -1}, {}}, {{}, {Kind: 5, N: 1}},
	} {
		for _, weight := range []int64{1, -1, 0, top, bottom} {
			bad := api.Item{Row: r, Weight: weight}
			for i := range len(good) + 1 {
				l := slices.Insert(slices.Clone(good), i, bad)
				wrong(t, "t", api.ErrRow, data("t", l...))
				wrong(t, "t", api.ErrRow, data("u", good...), data("t", l...), data("t", good...))
				for _, s := range []string{"filter(t, false)", "project(t, z = 1)", "distinct(t)", "union(u, project(t, x = a, y = 'x'))", "join(n, t, k = b)", "group(t, n = count())"} {
					wrong(t, s, api.ErrRow, data("t", l...))
				}
			}
			// Not even two that are nothing together.
			wrong(t, "t", api.ErrRow, data("t", bad, api.Item{Row: r, Weight: -weight}))
			comes(t, "t", "(null, null)*1 (1, 9)*2 (2, 1)*-1", data("t", good...), data("t", bad), data("u", bad))
		}
	}
	wrong(t, "u", api.ErrRow, data("u", item(1, 1, string(make([]byte, 201)))))
	comes(t, "project(u, c = c)", "(1)*1", data("u", item(1, 1, string(make([]byte, 200)))))
	wrong(t, "v", api.ErrRow, data("v", api.Item{Row: api.Row{{}, {Kind: api.Bool, N: 2}}, Weight: 1}))
	// A row that does not fit is told, even where another one's weight is none.
	wrong(t, "t", api.ErrRow, data("t", item(top, 1, int64(9)), item(1, 1, int64(9)), item(1, 1)))
	wrong(t, "t", api.ErrRow, data("t", item(1, 1), item(top, 1, int64(9)), item(1, 1, int64(9))))
	// Of a table with more columns than a row may have values no row fits.
	p := api.Plan{Op: "from", Table: "t", Cols: slices.Repeat(cols("a int32"), 25)}
	refused(t, p, api.ErrRow, data("t", api.Item{Row: make(api.Row, 25), Weight: 1}))
	p.Cols = p.Cols[1:]
	if s, e := eval.Of(p, data("t", api.Item{Row: make(api.Row, 24), Weight: 1})); len(s) != 1 || e != api.OK {
		t.Errorf("Of 24 columns: %s, %d", show(s), e)
	}
}

// P15.1, V4: ErrOver of weights that are no numbers of 64 bits: of a table, of what projects, unions and joins come to.
func TestOver(t *testing.T) {
	wrong(t, "n", api.ErrOver, data("n", item(top, int64(1)), item(1, int64(1))))
	wrong(t, "n", api.ErrOver, data("n", item(bottom, int64(1)), item(1, int64(2)), item(-1, int64(1))))
	wrong(t, "n", api.ErrOver, data("n", slices.Repeat([]api.Item{item(top, int64(1))}, 4)...))
	p := "project(t, a = a)"
	comes(t, p, "(1)*9223372036854775807", data("t", item(top-1, 1, int64(1)), item(1, 1, int64(2))))
	comes(t, p, "(1)*-9223372036854775808", data("t", item(bottom+1, 1, int64(1)), item(-1, 1, int64(2))))
	wrong(t, p, api.ErrOver, data("t", item(top, 1, int64(1)), item(1, 1, int64(2))))
	wrong(t, p, api.ErrOver, data("t", item(bottom, 1, int64(1)), item(-1, 1, int64(2)), item(1, 2, int64(2))))
	u := "union(n, n)"
	comes(t, u, "(1)*-9223372036854775808", data("n", item(-1<<62, int64(1))))
	wrong(t, u, api.ErrOver, data("n", item(1<<62, int64(1))))
	wrong(t, u, api.ErrOver, data("n", item(-1<<62-1, int64(1))))
	wrong(t, "union(n, n, n, n)", api.ErrOver, data("n", item(1, int64(1)), item(1<<61, int64(2))))
	comes(t, "union(n, n, n, n)", "(1)*4 (2)*-9223372036854775808", data("n", item(1, int64(1)), item(-1<<61, int64(2))))
	j := "join(n, project(v, x = e), k = x)"
	for _, two := range []struct {
		a, b int64
		over bool
	}{
		{1, top, false}, {-1, top, false}, {1, bottom, false}, {-1, bottom, true}, {2, 1 << 62, true}, {-2, 1 << 62, false}, {2, 1<<62 - 1, false}, {2, -1 << 62, false}, {3, 1 << 62, true}, {3, -1 << 62, true},
		{top, top, true}, {top, bottom, true}, {bottom, bottom, true}, {1 << 32, 1 << 31, true}, {1 << 32, -1 << 31, false}, {1 << 32, -1<<31 - 1, true}, {1<<32 - 1, 1 << 31, false}, {1 << 62, 4, true}, {1 << 62, -4, true},
	} {
		for range 2 {
			db := []api.Data{data("n", item(two.a, int64(1)), item(1, int64(2))), data("v", item(two.b, int64(1), nil))}
			if two.over {
				wrong(t, j, api.ErrOver, db...)
			} else {
				comes(t, j, "(1, 1)*"+show([]api.Item{{Weight: two.a * two.b}})[3:], db...)
			}
			// What has no partner is not multiplied.
			comes(t, j, "", data("n", item(two.a, int64(1))), data("v", item(two.b, int64(2), nil)))
			two.a, two.b = two.b, two.a
		}
	}
}

// P15.1, V4: what a filter's expression, and a project's, answer for a row, with each of 13's errors; without rows there is none.
func TestExpressions(t *testing.T) {
	rows := data("t", item(1, 1, int64(1)), item(-1, 2, int64(top)), item(1, nil, nil))
	for _, s := range []string{"b + 1 > 0", "b * 2 > 0", "-b - 2 < 0", "b + a > 0 or true", "b + 1 is null", "b + 1 > 0 and false", "a + 2147483646 > 0", "(a - 3) * 2147483648 * 4294967296 * a > 0"} {
		wrong(t, "filter(t, "+s+")", api.ErrOver, rows)
		wrong(t, "project(t, z = "+s+")", api.ErrOver, rows)
		wrong(t, "project(t, y = a, z = "+s+")", api.ErrOver, rows)
		wrong(t, "project(t, z = "+s+", y = a)", api.ErrOver, rows)
		comes(t, "filter(t, "+s+")", "", data("t", item(0, 2, int64(top))))
		comes(t, "project(t, z = "+s+")", "", data("t", item(0, 2, int64(top))))
	}
	comes(t, "filter(t, b + 1 > 0)", "(1, 1)*1 (1, 9223372036854775806)*1", data("t", item(1, nil, nil), item(1, 1, int64(1)), item(1, 1, int64(top-1))))
	wrong(t, "project(t, z = a + 1)", api.ErrOver, data("t", item(1, 1<<31-1, nil)))
	wrong(t, "project(t, z = -a)", api.ErrOver, data("t", item(1, -1<<31, nil), item(1, 1, nil)))
	comes(t, "project(t, z = a + 2147483648)", "(4294967295)*1", data("t", item(1, 1<<31-1, nil)))
	// Each row's values are told ahead of what the rows come to together: an error at two rows is one, too.
	wrong(t, "project(t, z = b + 1)", api.ErrOver, data("t", item(1, 1, int64(top)), item(1, 2, int64(top))))
	for _, op := range []string{"filter", "project"} {
		p := planned(t, map[string]string{"filter": "filter(t, b > 0)", "project": "project(t, z = b)"}[op])
		for want, l := range map[api.Errno][]api.Node{
			api.ErrArg:  {{}, {Op: "x"}, {Op: "num", Text: "x"}, {Op: "and", Kids: []api.Node{{Op: "true"}}}, {Op: "is null", Kids: []api.Node{{Op: "num", Text: "9223372036854775808"}}}},
			api.ErrName: {{Op: "col", Text: "z"}, parsed(t, "a > 1 or z"), parsed(t, "z > b + 1"), {Op: "col"}},
			api.ErrType: {parsed(t, "a = 'x'"), parsed(t, "not a"), parsed(t, "'x' + b"), parsed(t, "b + 1 and true")},
			api.ErrOver: {parsed(t, "b + 1 > 0")},
		} {
			for _, n := range l {
				p.Exprs = []api.Node{n}
				refused(t, p, want, rows)
				if s, e := eval.Of(p, data("t")); len(s) != 0 || e != api.OK {
					t.Errorf("Of(%v): %s, %d, without rows", p, show(s), e)
				}
			}
		}
		// A row that does not fit.
		p.Exprs = []api.Node{parsed(t, "a > 0")}
		if s, e := eval.Step(p, zset.Set{item(1, 1, int64(1)), item(1, 1, "x")}); s != nil || e != api.ErrRow {
			t.Errorf("Step(%v): %s, %d", p, show(s), e)
		}
	}
	p := planned(t, "filter(t, b > 0)")
	for _, s := range []string{"a", "b", "a + b", "'x'"} {
		p.Exprs = []api.Node{parsed(t, s)}
		refused(t, p, api.ErrType, rows)
	}
}

// P15.1, V4: of two errors the first is told: of Kids, from the left, ahead of the plan's own; row by row, as they rise; expression by expression.
func TestOrder(t *testing.T) {
	over, row := data("t", item(top, 1, int64(1)), item(1, 1, int64(1))), data("n", item(1, 1))
	wrong(t, "join(t, n, b = k)", api.ErrOver, over, row)
	wrong(t, "join(n, t, k = b)", api.ErrRow, over, row)
	wrong(t, "union(project(t, z = b), n, n)", api.ErrOver, over, row)
	wrong(t, "union(n, project(t, z = b), n)", api.ErrRow, over, row)
	wrong(t, "union(v, v, project(t, z = b, y = true), project(n, z = k, y = true))", api.ErrOver, over, row)
	wrong(t, "join(distinct(filter(n, k > 0)), t, k = b)", api.ErrRow, over, row)
	// A Kid's ahead of the plan's own.
	two := data("t", item(1, 1, int64(1)), item(1, 2, int64(top)))
	wrong(t, "join(filter(t, b + 1 > 0), n, b = k)", api.ErrOver, two, row)
	wrong(t, "join(n, filter(t, b + 1 > 0), k = b)", api.ErrRow, two, row)
	wrong(t, "union(filter(project(t, z = b), z + 1 > 0), n)", api.ErrOver, two, row)
	for _, op := range []string{"filter(t, b + 1 > 0)", "project(t, z = b + 1)", "group(t, s = sum(b))", "distinct(t)"} {
		wrong(t, op, api.ErrRow, data("t", append([]api.Item{item(1, 1)}, two.Items...)...))
	}
	bad := planned(t, "union(filter(t, b > 0), t)")
	bad.Kids[0].Exprs = []api.Node{{Op: "col", Text: "z"}}
	refused(t, bad, api.ErrName, two)
	bad.Kids[0], bad.Kids[1] = bad.Kids[1], bad.Kids[0]
	refused(t, bad, api.ErrName, two)
	refused(t, bad, api.ErrOver, over)
	bad.Op = "x"
	refused(t, bad, api.ErrName, two)
	refused(t, bad, api.ErrArg)
	// Rows rise, whatever their order in the data: the first one has but the second expression's error, the second one the first one's, too.
	p := planned(t, "project(t, z = b, y = b)")
	first, second := parsed(t, "b + 1"), api.Node{Op: "col", Text: "z"}
	for _, l := range [][]api.Item{two.Items, {two.Items[1], two.Items[0]}} {
		p.Exprs = []api.Node{first, second}
		refused(t, p, api.ErrName, data("t", l...))
		refused(t, p, api.ErrOver, data("t", l[slices.IndexFunc(l, func(x api.Item) bool { return x.Row[0].N == 2 })]))
		p.Exprs = []api.Node{second, first}
		refused(t, p, api.ErrName, data("t", l...))
		p.Exprs = []api.Node{{Op: "x"}, second}
		refused(t, p, api.ErrArg, data("t", l...))
	}
	// The rows' sum comes behind all rows.
	p.Exprs = []api.Node{parsed(t, "1"), second}
	refused(t, p, api.ErrName, data("t", item(top, 1, int64(1)), item(top, 1, int64(2))))
}

// P15.1, V4: an error of a key, or an Agg, wherever it stands.
func TestGroupsOver(t *testing.T) {
	good := []api.Item{item(1, 1, int64(1)), item(1, 3, int64(1))}
	for i := range 5 {
		l := append(slices.Clone(good), item(1, i, int64(top)), item(1, i, int64(top-1)))
		wrong(t, "group(t, by a, s = sum(b))", api.ErrOver, data("t", l...))
		wrong(t, "group(t, by a, n = count(), l = min(b), s = sum(b))", api.ErrOver, data("t", l...))
		wrong(t, "group(t, by a, n = count(), s = sum(b), l = min(b))", api.ErrOver, data("t", l...))
		l = append(slices.Clone(good), item(top, i, int64(5)), item(top, i, int64(6)))
		wrong(t, "group(t, by a, l = min(b), n = count())", api.ErrOver, data("t", l...))
		// Each key's count alone.
		l[2].Weight, l[3].Weight = top/2, top/2
		if i != 1 && i != 3 {
			comes(t, "project(group(t, by a, n = count()), n = n)", "(1)*2 (9223372036854775806)*1", data("t", l...))
		} else {
			comes(t, "project(group(t, by a, n = count()), n = n)", "(1)*1 (9223372036854775807)*1", data("t", l...))
		}
	}
}

// P15.1, V4: Step answers ErrArg of as many sets as the plan has not Kids, of a `from`, and of a plan that is none.
func TestStep(t *testing.T) {
	s := set(t, item(1, 1, int64(1)))
	ask := func(p api.Plan, in ...zset.Set) {
		t.Helper()
		if out, e := eval.Step(p, in...); out != nil || e != api.ErrArg {
			t.Errorf("Step(%s) of %d sets: %s, %d", p.Op, len(in), show(out), e)
		}
	}
	for _, q := range []string{"t", "filter(t, a = 1)", "project(t, a = a)", "join(t, project(t, x = a), a = x)", "union(t, t)", "union(t, t, t)", "union(t, t, t, t)", "distinct(t)", "group(t, n = count())"} {
		p := planned(t, q)
		for n := range 6 {
			for _, one := range []zset.Set{s, nil, {}} {
				in := slices.Repeat([]zset.Set{one}, n)
				if n != len(p.Kids) || p.Op == "from" {
					ask(p, in...)
				} else if _, e := eval.Step(p, in...); e != api.OK {
					t.Errorf("Step(%s) of %d sets: %d", q, n, e)
				}
			}
		}
		// With Kids that are not so many as such a plan has.
		most := 1 << 10
		if p.Op != "union" {
			most = len(p.Kids)
		}
		for n := range 6 {
			bare := p
			bare.Kids = slices.Repeat([]api.Plan{planned(t, "t")}, n)
			if n < min(len(p.Kids), 2) || n > most {
				ask(bare, slices.Repeat([]zset.Set{s}, n)...)
			}
		}
		for _, op := range []string{"", "x", "from", "Filter", "by", "agg", "filter ", "count", "true"} {
			p.Op = op
			for n := range 4 {
				ask(p, slices.Repeat([]zset.Set{s}, n)...)
			}
		}
	}
	for _, op := range []string{"", "x", "from", "filter", "project", "join", "union", "distinct", "group"} {
		ask(api.Plan{Op: op})
		ask(api.Plan{Op: op}, s)
		ask(api.Plan{Op: op}, s, s)
		if op != "from" {
			refused(t, api.Plan{Op: op}, api.ErrArg)
		}
	}
	// A set's memory behind its length is not read.
	roomy := append(s, item(1, 1, "x"))[:1]
	if out, e := eval.Step(planned(t, "distinct(t)"), roomy); show(out) != "(1, 1)*1" || e != api.OK {
		t.Errorf("Step of a roomy set: %s, %d", show(out), e)
	}
}
