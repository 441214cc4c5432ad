package calc_test

import (
	"math"
	"slices"
	"strconv"
	"strings"
	"testing"

	"instar/api"
	"instar/calc"
	"instar/expr"
	"instar/schema"
)

// Short forms of nodes, of values, and of texts.
func of(op string, kids ...api.Node) api.Node { return api.Node{Op: op, Kids: kids} }
func named(op, text string, kids ...api.Node) api.Node {
	return api.Node{Op: op, Text: text, Kids: kids}
}
func col(s string) api.Node                { return named("col", s) }
func number(s string) api.Node             { return named("num", s) }
func text(s string) api.Node               { return named("text", s) }
func ofKind(k api.Kind, n int64) api.Value { return api.Value{Kind: k, N: n} }
func ofText(s string) api.Value            { return api.Value{Kind: api.Text, S: s} }
func times(s string, n int) string         { return strings.Repeat(s, n) }
func column(id int, name string, k api.Kind) api.Column {
	return api.Column{ID: id, Name: name, Kind: k}
}

// Values that stand in many of the tests below.
var (
	null api.Value
	yes  = ofKind(api.Bool, 1)
	no   = ofKind(api.Bool, 0)
)

// The Ops of nodes with one Kid, and of those with two.
var (
	ones  = []string{"not", "neg", "is null"}
	sums  = []string{"+", "-", "*"}
	tests = []string{"=", "<>", "<", "<=", ">", ">="}
	twos  = slices.Concat([]string{"and", "or"}, sums, tests)
)

// The kinds, in their order, and what is no kind.
var (
	kinds   = []api.Kind{api.Null, api.Bool, api.Int32, api.Int64, api.Text}
	noKinds = []api.Kind{-1, 5, 6, 1 << 32, math.MaxInt, math.MinInt}
)

// ordinary are columns of each kind, two of each; their IDs are in no order.
func ordinary() schema.Schema {
	return schema.Schema{
		column(9, "b", api.Bool), column(4, "i", api.Int32), column(7, "l", api.Int64), column(1, "t", api.Text),
		column(2, "b2", api.Bool), column(3, "i2", api.Int32), column(8, "l2", api.Int64), column(5, "t2", api.Text),
	}
}

// a row of these.
func values() api.Row {
	return api.Row{yes, ofKind(api.Int32, 7), ofKind(api.Int64, -3), ofText("x"), no, ofKind(api.Int32, math.MaxInt32), ofKind(api.Int64, math.MinInt64), ofText("")}
}

// parse is a text's node.
func parse(t *testing.T, s string) api.Node {
	t.Helper()
	n, at, e := expr.Parse(s)
	if e != api.OK {
		t.Fatalf("Parse(%q): %d, %d", s, at, e)
	}
	return n
}

// cut is a node's text, short enough to be told.
func cut(n api.Node) string {
	if expr.Deep(n) > 50 {
		return "a deep one: " + n.Op
	}
	s := expr.Show(n)
	return s[:min(len(s), 200)]
}

// kindOf holds an expression's kind, or what is wrong with it, against what it should be; what is wrong comes ahead of all else, whatever the row is.
func kindOf(t *testing.T, n api.Node, s schema.Schema, want api.Kind, fault api.Errno) {
	t.Helper()
	if k, e := calc.Type(n, s); k != want || e != fault {
		t.Errorf("Type(%s): %d, %d, not %d, %d", cut(n), k, e, want, fault)
	}
	if fault == api.OK {
		return
	}
	for _, r := range []api.Row{nil, values(), {{}}, {{Kind: 9}}} {
		if v, e := calc.Value(n, s, r); v != null || e != fault {
			t.Errorf("Value(%s) of %v: %v, %d, not %d", cut(n), r, v, e, fault)
		}
		if is, e := calc.Holds(n, s, r); is || e != fault {
			t.Errorf("Holds(%s) of %v: %v, %d, not %d", cut(n), r, is, e, fault)
		}
	}
}

// valued holds an expression's value for a row, and whether it holds, against what should be: each value is null, or of the expression's kind.
func valued(t *testing.T, n api.Node, s schema.Schema, r api.Row, want api.Value, fault api.Errno) {
	t.Helper()
	v, e := calc.Value(n, s, r)
	if v != want || e != fault {
		t.Errorf("Value(%s) of %v: %v, %d, not %v, %d", cut(n), r, v, e, want, fault)
	}
	k, wrong := calc.Type(n, s)
	if wrong != api.OK || v.Kind != api.Null && v.Kind != k {
		t.Errorf("Type(%s): %d, %d, where the value is %v", cut(n), k, wrong, v)
	}
	if k == api.Int32 || k == api.Int64 || k == api.Text {
		want, fault = null, api.ErrType
	}
	if is, e := calc.Holds(n, s, r); is != (want == yes) || e != fault {
		t.Errorf("Holds(%s) of %v: %v, %d, not %v, %d", cut(n), r, is, e, want == yes, fault)
	}
}

// is holds the value of a text's expression, for the ordinary row, against what it should be.
func is(t *testing.T, s string, want api.Value) {
	t.Helper()
	valued(t, parse(t, s), ordinary(), values(), want, api.OK)
}

// over is for the texts whose values are too great, or too small.
func over(t *testing.T, s string) {
	t.Helper()
	valued(t, parse(t, s), ordinary(), values(), null, api.ErrOver)
}

// P13.1, K1: the kind of a num, and its value: of 32 bits, of 64, and of what is no literal's.
func TestNum(t *testing.T) {
	for s, n := range map[string]int64{
		"0": 0, "1": 1, "7": 7, "2147483646": math.MaxInt32 - 1, "2147483647": math.MaxInt32, "0002147483647": math.MaxInt32, "0000000002147483647": math.MaxInt32,
		"2147483648": 1 << 31, "2147483649": 1<<31 + 1, "0000000002147483648": 1 << 31, "4294967295": math.MaxUint32, "4294967296": 1 << 32, "4294967297": 1<<32 + 1,
		"9223372036854775806": math.MaxInt64 - 1, "9223372036854775807": math.MaxInt64, "007": 7, times("0", 19): 0, times("0", 18) + "1": 1,
	} {
		k := api.Int64
		if n <= math.MaxInt32 {
			k = api.Int32
		}
		kindOf(t, number(s), nil, k, api.OK)
		valued(t, number(s), nil, nil, ofKind(k, n), api.OK)
		// Of a sign the kind is the Kid's, also where the number would be one of 32 bits with it.
		kindOf(t, of("neg", number(s)), nil, k, api.OK)
		valued(t, of("neg", number(s)), nil, nil, ofKind(k, -n), api.OK)
	}
	for _, s := range []string{
		"9223372036854775808", "9223372036854775809", "9999999999999999999", "10000000000000000000", "18446744073709551616", "18446744073709551617", times("0", 20), times("0", 19) + "1", times("0", 100),
		"", "-1", "- 1", "-", "+1", " 1", "1 ", "1a", "a", "0x1", "1_0", "1.0", "1e3", "true", "null", "'1'", "1\x00", "\xff", "/", ":", "٣", "１",
	} {
		kindOf(t, number(s), nil, api.Null, api.ErrArg)
		kindOf(t, of("neg", number(s)), ordinary(), api.Null, api.ErrArg)
		kindOf(t, of("is null", number(s)), ordinary(), api.Null, api.ErrArg)
	}
}

// P13.1, K1, K2: the kinds, and the values, of texts, truths and null.
func TestLiterals(t *testing.T) {
	for _, s := range []string{"", "x", "it's", "1", "null", "?", "\x00", "\xff", times("x", 199), times("x", 200), times("'", 200), times("é", 100)} {
		kindOf(t, text(s), nil, api.Text, api.OK)
		valued(t, text(s), nil, nil, ofText(s), api.OK)
		valued(t, of("=", text(s), text(s)), nil, nil, yes, api.OK)
	}
	for _, s := range []string{times("x", 201), times("'", 201), times("é", 101), times("x", 1<<16)} {
		kindOf(t, text(s), nil, api.Null, api.ErrArg)
		kindOf(t, of("is null", text(s)), nil, api.Null, api.ErrArg)
	}
	for op, want := range map[string]api.Value{"true": yes, "false": no, "null": null} {
		kindOf(t, of(op), nil, want.Kind, api.OK)
		valued(t, of(op), nil, nil, want, api.OK)
		valued(t, of(op), ordinary(), values(), want, api.OK)
		// A list without elements may be nil or not.
		valued(t, api.Node{Op: op, Kids: []api.Node{}}, schema.Schema{}, api.Row{}, want, api.OK)
	}
}

// P13.1, K1, K2: the kind, and the value, of a column: of the first one of its name.
func TestColumns(t *testing.T) {
	s, r := ordinary(), values()
	for i, c := range s {
		kindOf(t, col(c.Name), s, c.Kind, api.OK)
		valued(t, col(c.Name), s, r, r[i], api.OK)
		// Null may be in a column of any kind.
		r[i] = null
		kindOf(t, col(c.Name), s, c.Kind, api.OK)
		valued(t, col(c.Name), s, r, null, api.OK)
		r = values()
		// Neither the column behind the length, nor one ahead of the beginning.
		kindOf(t, col(c.Name), s[:i], api.Null, api.ErrName)
		kindOf(t, col(c.Name), s[i+1:], api.Null, api.ErrName)
		valued(t, col(c.Name), s[i:i+1], r[i:i+1], r[i], api.OK)
	}
	for _, name := range []string{"a", "", "B", "b ", " b", "bb", "null", "true", "and", "1", "'b'", "?", "b\x00", times("x", 20), times("x", 21)} {
		for _, s := range []schema.Schema{nil, {}, s, s[:1]} {
			kindOf(t, col(name), s, api.Null, api.ErrName)
			kindOf(t, of("is null", col(name)), s, api.Null, api.ErrName)
		}
	}
	twice := schema.Schema{column(1, "a", api.Int32), column(2, "c", api.Text), column(3, "a", api.Bool), column(1, "c", api.Int64)}
	r = api.Row{ofKind(api.Int32, 5), ofText("y"), yes, ofKind(api.Int64, 6)}
	kindOf(t, col("a"), twice, api.Int32, api.OK)
	kindOf(t, col("c"), twice, api.Text, api.OK)
	kindOf(t, of("and", col("a"), of("true")), twice, api.Null, api.ErrType)
	valued(t, col("a"), twice, r, r[0], api.OK)
	valued(t, col("c"), twice, r, r[1], api.OK)
	valued(t, of("+", col("a"), number("1")), twice, r, ofKind(api.Int32, 6), api.OK)
}

// P13.1, K1, K2: as many columns as a row may have values, and one more, of which no row fits.
func TestManyColumns(t *testing.T) {
	var s schema.Schema
	var r api.Row
	for i := range 25 {
		s, r = append(s, column(i+1, "c"+strconv.Itoa(i), api.Int64)), append(r, ofKind(api.Int64, int64(i)*100))
	}
	for i := range 24 {
		valued(t, col("c"+strconv.Itoa(i)), s[:24], r[:24], r[i], api.OK)
		valued(t, col("c"+strconv.Itoa(i)), s[:i+1], r[:i+1], r[i], api.OK)
	}
	kindOf(t, col("c24"), s, api.Int64, api.OK)
	valued(t, col("c24"), s, r, null, api.ErrRow)
	valued(t, of("true"), s, r, null, api.ErrRow)
}

// P13.1, K1, K2: columns of what is no column's kind, or with names that may not be: they are told as they stand, and no row fits where a kind is none.
func TestColumnsThatAreNone(t *testing.T) {
	for _, k := range append(slices.Clone(noKinds), api.Null) {
		s := schema.Schema{column(1, "a", k), column(2, "c", api.Int32)}
		kindOf(t, col("a"), s, k, api.OK)
		for _, r := range []api.Row{nil, {null, null}, {{Kind: k}, null}, {ofKind(k, 1), ofKind(api.Int32, 1)}} {
			for _, n := range []api.Node{col("c"), of("is null", col("a")), of("is null", col("c")), of("=", col("a"), col("a")), of("true"), number("1")} {
				valued(t, n, s, r, null, api.ErrRow)
			}
		}
	}
	for _, k := range noKinds {
		s := schema.Schema{column(1, "a", k), column(2, "c", api.Int32), column(3, "d", k-1)}
		kindOf(t, of("=", col("a"), col("a")), s, api.Bool, api.OK)
		kindOf(t, of("<", col("a"), of("null")), s, api.Bool, api.OK)
		kindOf(t, of("is null", col("a")), s, api.Bool, api.OK)
		for _, n := range []api.Node{of("=", col("a"), col("d")), of("=", col("a"), col("c")), of("+", col("a"), col("a")), of("+", of("null"), col("a")), of("neg", col("a")), of("not", col("a")), of("and", of("null"), col("a"))} {
			kindOf(t, n, s, api.Null, api.ErrType)
		}
	}
	s := schema.Schema{column(0, "", api.Int32), column(0, "and", api.Bool)}
	valued(t, col(""), s, api.Row{ofKind(api.Int32, 4), yes}, ofKind(api.Int32, 4), api.OK)
	valued(t, col("and"), s, api.Row{ofKind(api.Int32, 4), yes}, yes, api.OK)
}

// kinded are nodes of each kind: those of null, then those of Bool, and so on.
func kinded(t *testing.T) [][]api.Node {
	var l [][]api.Node
	for _, s := range [][]string{
		{"null", "-null", "null + null", "null * (null - null)"},
		{"b", "b2", "true", "false", "i = 1", "t is null", "not null", "null and null", "null = null", "b or b2"},
		{"i", "i2", "1", "2147483647", "i * 0", "-i2", "null - i", "3 * null"},
		{"l", "l2", "2147483648", "i * 0 + l", "-l", "null - l", "l * null"},
		{"t", "t2", "''", "'x'"},
	} {
		var nodes []api.Node
		for _, one := range s {
			nodes = append(nodes, parse(t, one))
		}
		l = append(l, nodes)
	}
	return l
}

// P13.1, K1: the kind of each node of each two kinds, and of each one, null among them.
func TestKinds(t *testing.T) {
	const N, B, I, L, x = api.Null, api.Bool, api.Int32, api.Int64, api.Kind(-1)
	type table [5][5]api.Kind
	truth := table{
		{B, B, x, x, x},
		{B, B, x, x, x},
		{x, x, x, x, x},
		{x, x, x, x, x},
		{x, x, x, x, x},
	}
	sum := table{
		{N, x, I, L, x},
		{x, x, x, x, x},
		{I, x, I, L, x},
		{L, x, L, L, x},
		{x, x, x, x, x},
	}
	test := table{
		{B, B, B, B, B},
		{B, B, x, x, x},
		{B, x, B, B, x},
		{B, x, B, B, x},
		{B, x, x, x, B},
	}
	one := map[string][5]api.Kind{"not": {B, B, x, x, x}, "neg": {N, x, I, L, x}, "is null": {B, B, B, B, B}}
	want := func(n api.Node, k api.Kind) {
		t.Helper()
		if k == x {
			kindOf(t, n, ordinary(), api.Null, api.ErrType)
		} else {
			kindOf(t, n, ordinary(), k, api.OK)
		}
	}
	nodes := kinded(t)
	for k, l := range nodes {
		for _, n := range l {
			kindOf(t, n, ordinary(), kinds[k], api.OK)
			for _, op := range ones {
				want(of(op, n), one[op][k])
			}
			for o, m := range nodes {
				for _, m := range m {
					for _, op := range twos {
						of2 := test
						switch {
						case slices.Contains(sums, op):
							of2 = sum
						case op == "and" || op == "or":
							of2 = truth
						}
						want(of(op, n, m), of2[k][o])
					}
				}
			}
		}
	}
}

// P13.1, K1: ErrArg of a node with an Op that is none, of the empty one, with a Text where none may be, and with Kids too few and too many.
func TestNoNode(t *testing.T) {
	one, truth := number("1"), of("true")
	for _, op := range []string{"", " ", "?", "OR", "And", "xor", "==", "!=", "=>", "/", "%", "num ", "number", "column", "from", "kind", "isnull", "is", "is  null", "- ", "true ", "TRUE", "Null", "filter", "count", "add", "create table", "\x00", times("or", 1<<10)} {
		for _, s := range []string{"", "x", "1", "i"} {
			for _, kids := range [][]api.Node{nil, {}, {one}, {truth, truth}, {one, one}, {one, one, one}} {
				kindOf(t, named(op, s, kids...), ordinary(), api.Null, api.ErrArg)
			}
		}
	}
	ask := func(op string, kids int) {
		for _, kid := range []api.Node{one, truth, of("null"), text("x")} {
			for n := range 6 {
				l := slices.Repeat([]api.Node{kid}, n)
				for _, s := range []string{"", "x", " ", "null", op} {
					if n != kids || s != "" {
						kindOf(t, named(op, s, l...), ordinary(), api.Null, api.ErrArg)
					} else if _, e := calc.Type(of(op, l...), ordinary()); e == api.ErrArg {
						t.Errorf("Type of %s, with %d Kids: ErrArg", op, n)
					}
				}
			}
		}
	}
	for _, op := range twos {
		ask(op, 2)
	}
	for _, op := range ones {
		ask(op, 1)
	}
	for _, op := range []string{"true", "false", "null"} {
		ask(op, 0)
	}
	for op, s := range map[string]string{"num": "1", "text": "x", "col": "i"} {
		kindOf(t, named(op, s, api.Node{}), ordinary(), api.Null, api.ErrArg)
		for n := range 5 {
			if _, e := calc.Type(named(op, s, slices.Repeat([]api.Node{one}, n)...), ordinary()); (e == api.ErrArg) != (n > 0) {
				t.Errorf("Type of %s, with %d Kids: %d", op, n, e)
			}
		}
	}
	kindOf(t, api.Node{}, nil, api.Null, api.ErrArg)
	kindOf(t, api.Node{}, ordinary(), api.Null, api.ErrArg)
	// Not deeper either.
	for _, op := range ones {
		kindOf(t, of(op, api.Node{}), ordinary(), api.Null, api.ErrArg)
		kindOf(t, of("not", of(op, named("true", "x"))), ordinary(), api.Null, api.ErrArg)
	}
}

// P13.1, K1: where more than one thing is wrong, the one of the Kids, from the left, is told, ahead of the node's own: ErrArg, then ErrName, then ErrType.
func TestFirstWrong(t *testing.T) {
	wrong := []struct {
		n    api.Node
		want api.Errno
	}{
		{api.Node{}, api.ErrArg}, {number("x"), api.ErrArg}, {text(times("x", 201)), api.ErrArg}, {named("true", "x"), api.ErrArg}, {of("and", of("true")), api.ErrArg},
		{col("z"), api.ErrName}, {of("neg", col("z")), api.ErrName}, {of("not", of("neg", col(""))), api.ErrName},
		{of("not", number("1")), api.ErrType}, {of("neg", text("x")), api.ErrType}, {of("+", of("true"), of("true")), api.ErrType}, {of("=", of("true"), number("1")), api.ErrType},
	}
	right := []api.Node{number("1"), of("true"), of("null"), text("x"), col("i"), of("neg", col("l"))}
	// The node that holds it is wrong in each way, too, or in none.
	around := []api.Node{
		{}, named("?", "x"), number("1"), number(""), text(times("x", 201)), col("z"), col("i"), named("null", "x"), of("true"),
	}
	for _, op := range append(slices.Clone(ones), twos...) {
		around = append(around, of(op), named(op, "x"))
	}
	for _, about := range around {
		first := func(want api.Errno, l ...api.Node) {
			t.Helper()
			kindOf(t, named(about.Op, about.Text, l...), ordinary(), api.Null, want)
		}
		for _, w := range wrong {
			first(w.want, w.n)
			for _, r := range right {
				first(w.want, r, w.n)
				first(w.want, w.n, r)
				first(w.want, r, r, w.n)
			}
			for _, o := range wrong {
				first(w.want, w.n, o.n)
				first(w.want, right[0], w.n, o.n)
			}
		}
	}
	// A name that is not there comes behind what makes the node none, and what is not of a kind behind both.
	kindOf(t, named("col", "z", number("1")), ordinary(), api.Null, api.ErrArg)
	kindOf(t, named("not", "x", number("1")), ordinary(), api.Null, api.ErrArg)
	kindOf(t, of("and", number("1"), number("1"), number("1")), ordinary(), api.Null, api.ErrArg)
	kindOf(t, of("and", of("not", col("z")), of("neg", of("true"))), ordinary(), api.Null, api.ErrName)
	kindOf(t, of("and", of("neg", of("true")), of("not", col("z"))), ordinary(), api.Null, api.ErrType)
}
