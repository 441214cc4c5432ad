package calc_test

import (
	"math"
	"math/big"
	"slices"
	"strconv"
	"strings"
	"testing"

	"instar/api"
	"instar/calc"
	"instar/schema"
)

// P13.1, K2: sums, differences, products and neg that are only just of their kind, and only just not.
func TestSums(t *testing.T) {
	i32 := func(n int64) api.Value { return ofKind(api.Int32, n) }
	i64 := func(n int64) api.Value { return ofKind(api.Int64, n) }
	for s, want := range map[string]api.Value{
		"1 + 2": i32(3), "1 - 2": i32(-1), "2 * 3": i32(6), "-7": i32(-7), "- -7": i32(7), "-0": i32(0), "5 - (3 - 1) - 1": i32(2), "2 + 3 * 4": i32(14), "i + i": i32(14), "i - l": i64(10), "l * l": i64(9), "l - l": i64(0), "-l": i64(3), "-i": i32(-7),
		"2147483646 + 1": i32(math.MaxInt32), "i2 + 0": i32(math.MaxInt32), "0 + i2": i32(math.MaxInt32), "-1 + i2": i32(math.MaxInt32 - 1), "-i2 - 1": i32(math.MinInt32), "-i2 + -1": i32(math.MinInt32), "-1 - i2": i32(math.MinInt32), "0 - i2": i32(-math.MaxInt32), "i2 - 0": i32(math.MaxInt32), "i2 - i2": i32(0), "i2 * 1": i32(math.MaxInt32), "i2 * -1": i32(-math.MaxInt32), "(-i2 - 1) * 1": i32(math.MinInt32), "65536 * -32768": i32(math.MinInt32), "32767 * 65536": i32(1<<31 - 1<<16), "46340 * 46340": i32(2147395600), "-(-i2)": i32(math.MaxInt32),
		"i2 + 2147483648": i64(math.MaxUint32), "i2 + 1 * l": i64(math.MaxInt32 - 3), "i2 * l": i64(-3 * math.MaxInt32), "2147483648 - 1": i64(math.MaxInt32), "2147483648 * 0": i64(0), "-2147483648": i64(math.MinInt32), "-2147483648 - 1": i64(math.MinInt32 - 1), "i2 + (l - l)": i64(math.MaxInt32), "(l - l) + 1": i64(1),
		"l2 + i2": i64(math.MinInt64 + math.MaxInt32), "l2 * 1": i64(math.MinInt64), "1 * l2": i64(math.MinInt64), "l2 + 1": i64(math.MinInt64 + 1), "l2 - 0": i64(math.MinInt64), "0 + l2": i64(math.MinInt64), "l2 - l2": i64(0), "-(l2 + 1)": i64(math.MaxInt64), "-1 - l2": i64(math.MaxInt64), "l - l2": i64(math.MaxInt64 - 2), "9223372036854775806 + 1": i64(math.MaxInt64), "-9223372036854775807 - 1": i64(math.MinInt64), "4611686018427387904 * -2": i64(math.MinInt64), "3037000499 * 3037000499": i64(9223372030926249001), "4294967296 * 2147483647": i64(1<<63 - 1<<32), "l2 * 0": i64(0),
	} {
		is(t, s, want)
	}
	for _, s := range []string{
		"i2 + 1", "1 + i2", "i2 + i2", "i2 - -1", "0 - (-i2 - 1)", "-(-i2 - 1)", "-i2 - 2", "-2 - i2", "-2 + -i2", "-i2 - i2", "i2 * 2", "i2 * i2", "2 * i2", "(-i2 - 1) * -1", "-1 * (-i2 - 1)", "65536 * 32768", "46341 * 46341", "65536 * 65536", "i2 * -2", "(-i2 - 1) * (-i2 - 1)", "65536 * 65536 + l", "(i2 + 1) * 0", "l - (i2 + 1)",
		"l2 - 1", "-1 + l2", "l2 + -1", "-l2", "0 - l2", "1 - (l2 + 1)", "l2 * -1", "-1 * l2", "l2 * 2", "l2 * l2", "l2 + l2", "9223372036854775807 + 1", "1 + 9223372036854775807", "9223372036854775807 + 9223372036854775807", "-9223372036854775807 - 2", "4611686018427387904 * 2", "3037000500 * 3037000500", "4294967296 * 2147483648", "4294967296 * 4294967296", "i2 - l2",
	} {
		over(t, s)
	}
}

// P13.1, K2: sums of each two numbers about the edges of both kinds, counted in numbers of any size.
func TestEdges(t *testing.T) {
	var l []api.Value
	for _, n := range []int64{0, 1, 2, 3, 181, 182, 46340, 46341, 1 << 15, 1 << 16, 1<<31 - 2, 1<<31 - 1, 1 << 31} {
		for _, n := range []int64{n, -n} {
			if n == int64(int32(n)) {
				l = append(l, ofKind(api.Int32, n))
			}
		}
	}
	for _, n := range []int64{0, 1, 2, 3, 1<<31 - 1, 1 << 31, 1<<31 + 1, 1 << 32, 3037000499, 3037000500, 1 << 62, 1<<63 - 2, 1<<63 - 1} {
		l = append(l, ofKind(api.Int64, n), ofKind(api.Int64, -n), ofKind(api.Int64, -n-1))
	}
	told := func(n api.Node, s schema.Schema, r api.Row, k api.Kind, sum *big.Int) {
		t.Helper()
		if sum.IsInt64() && (k == api.Int64 || sum.Int64() == int64(int32(sum.Int64()))) {
			valued(t, n, s, r, ofKind(k, sum.Int64()), api.OK)
		} else {
			valued(t, n, s, r, null, api.ErrOver)
		}
	}
	for _, a := range l {
		for _, b := range l {
			s, r := schema.Schema{column(1, "a", a.Kind), column(2, "b", b.Kind)}, api.Row{a, b}
			m, n, k := big.NewInt(a.N), big.NewInt(b.N), max(a.Kind, b.Kind)
			told(of("+", col("a"), col("b")), s, r, k, new(big.Int).Add(m, n))
			told(of("-", col("a"), col("b")), s, r, k, new(big.Int).Sub(m, n))
			told(of("*", col("a"), col("b")), s, r, k, new(big.Int).Mul(m, n))
			told(of("neg", col("b")), s, r, b.Kind, new(big.Int).Neg(n))
		}
	}
}

// P13.1, K2: null in each place of each node.
func TestNulls(t *testing.T) {
	for _, s := range []string{
		"null", "-null", "not null", "null + null", "null + 1", "1 + null", "null - i", "i - null", "null * l", "l * null", "-(null + 1)", "1 + (2 + null) * 3", "null * 0", "0 * null",
		"null = null", "null <> null", "null < null", "null <= null", "null > null", "null >= null", "null = 1", "l = null", "null <> b", "t < null", "null <= 't'", "null > false", "i >= null", "i = null + 1", "not (i = null)",
		"null and null", "null or null", "null and true", "true and null", "b and null", "null or false", "false or null", "b2 or null", "not (null and b)", "(null or b2) and b", "null = i and b",
	} {
		is(t, s, null)
	}
	// Null that a row has, in a column of each kind.
	s := schema.Schema{column(1, "b", api.Bool), column(2, "i", api.Int32), column(3, "l", api.Int64), column(4, "t", api.Text)}
	r := api.Row{null, null, null, null}
	for _, text := range []string{"b", "i", "l", "t", "not b", "-i", "-l", "i + 1", "1 - l", "i * l", "l * i", "b = true", "i = i", "i < l", "1 > l", "t <> t", "'' <= t", "b and true", "true and b", "b or false", "b and b", "b or b", "not (t = 'x')", "null = t", "t = null"} {
		valued(t, parse(t, text), s, r, null, api.OK)
	}
	for text, want := range map[string]api.Value{"b and false": no, "false and b": no, "b or true": yes, "true or b": yes, "b is null": yes, "i is null": yes, "l is null": yes, "t is null": yes, "i + 1 is null": yes, "(t = t) is null": yes, "(b or true) is null": no, "(b is null) is null": no} {
		valued(t, parse(t, text), s, r, want, api.OK)
	}
}

// P13.1, K2: is null of null, and of all else.
func TestIsNull(t *testing.T) {
	for s, want := range map[string]api.Value{
		"null is null": yes, "-null is null": yes, "null + 1 is null": yes, "(null = null) is null": yes, "(not null) is null": yes, "(null and true) is null": yes, "(null or false) is null": yes,
		"0 is null": no, "1 is null": no, "l2 is null": no, "'' is null": no, "'null' is null": no, "t2 is null": no, "false is null": no, "true is null": no, "b2 is null": no, "i is null": no, "(null is null) is null": no, "(null and false) is null": no, "(null or true) is null": no, "not (b is null)": yes, "i - i is null": no,
	} {
		is(t, s, want)
	}
}

// P13.1, K2: and, or, not of each truth, and of null, from literals and from a row.
func TestTruths(t *testing.T) {
	names := []string{"false", "null", "true"}
	is3 := []api.Value{no, null, yes}
	and := [3][3]int{{0, 0, 0}, {0, 1, 1}, {0, 1, 2}}
	or := [3][3]int{{0, 1, 2}, {1, 1, 2}, {2, 2, 2}}
	s := schema.Schema{column(1, "a", api.Bool), column(2, "c", api.Bool)}
	for i, a := range names {
		is(t, "not "+a, is3[2-i])
		valued(t, of("not", col("a")), s, api.Row{is3[i], null}, is3[2-i], api.OK)
		for j, b := range names {
			r := api.Row{is3[i], is3[j]}
			is(t, a+" and "+b, is3[and[i][j]])
			is(t, a+" or "+b, is3[or[i][j]])
			valued(t, of("and", col("a"), col("c")), s, r, is3[and[i][j]], api.OK)
			valued(t, of("or", col("a"), col("c")), s, r, is3[or[i][j]], api.OK)
			valued(t, of("and", col("c"), of(a)), s, r, is3[and[j][i]], api.OK)
			valued(t, of("or", of(b), col("a")), s, r, is3[or[j][i]], api.OK)
		}
	}
}

// tested holds each test of two values against what it should be, by how they are in order.
func tested(t *testing.T, a, b api.Value, order int) {
	t.Helper()
	s := schema.Schema{column(1, "a", a.Kind), column(2, "c", b.Kind)}
	for op, so := range map[string]bool{"=": order == 0, "<>": order != 0, "<": order < 0, "<=": order <= 0, ">": order > 0, ">=": order >= 0} {
		want := no
		if so {
			want = yes
		}
		valued(t, of(op, col("a"), col("c")), s, api.Row{a, b}, want, api.OK)
		// A test of what is there with null is null.
		valued(t, of(op, col("a"), of("null")), s, api.Row{a, b}, null, api.OK)
		valued(t, of(op, col("a"), col("c")), s, api.Row{null, b}, null, api.OK)
		valued(t, of(op, col("a"), col("c")), s, api.Row{a, null}, null, api.OK)
	}
}

// P13.1, K2: tests of numbers of both kinds, of texts, one of which begins with the other, too, and of truths.
func TestTests(t *testing.T) {
	numbers := []int64{math.MinInt64, math.MinInt64 + 1, math.MinInt32 - 1, math.MinInt32, -256, -2, -1, 0, 1, 2, 255, 256, 1 << 16, math.MaxInt32, math.MaxInt32 + 1, math.MaxUint32, 1 << 32, math.MaxInt64 - 1, math.MaxInt64}
	for i, m := range numbers {
		for j, n := range numbers {
			narrow := []bool{m == int64(int32(m)), n == int64(int32(n))}
			tested(t, ofKind(api.Int64, m), ofKind(api.Int64, n), i-j)
			if narrow[0] {
				tested(t, ofKind(api.Int32, m), ofKind(api.Int64, n), i-j)
			}
			if narrow[1] {
				tested(t, ofKind(api.Int64, m), ofKind(api.Int32, n), i-j)
			}
			if narrow[0] && narrow[1] {
				tested(t, ofKind(api.Int32, m), ofKind(api.Int32, n), i-j)
			}
		}
	}
	texts := []string{"", "\x00", "\x00\x00", " ", "'", "''", "-1", "0", "1", "10", "2", "A", "Z", "a", "a\x00", "aa", "ab", "b", "null", "x", times("x", 199), times("x", 200), "y", "é", "\xff", "\xff\xff"}
	for i, a := range texts {
		for j, b := range texts {
			tested(t, ofText(a), ofText(b), i-j)
		}
	}
	for i, a := range []api.Value{no, yes} {
		for j, b := range []api.Value{no, yes} {
			tested(t, a, b, i-j)
		}
	}
	for s, want := range map[string]api.Value{
		"1 = 1": yes, "1 = 01": yes, "2147483648 = 2147483648": yes, "1 = l - l + 1": yes, "i2 < 2147483648": yes, "l < i": yes, "i < l": no, "-2147483648 = -i2 - 1": yes, "l2 < -i2": yes, "'a' < 'ab'": yes, "'ab' < 'a'": no, "'ab' < 'b'": yes, "'' < 'a'": yes, "'Z' < 'a'": yes, "'10' < '9'": yes, "'it''s' = 'it''s'": yes, "t = 'x'": yes, "t2 < t": yes, "false < true": yes, "true <= false": no, "b > b2": yes, "(1 = 1) = true": yes, "(1 = 2) = (2 = 1)": yes, "not 1 = 2": yes, "(1 is null) <> (null is null)": yes, "-1 < 0": yes, "0 = -0": yes,
	} {
		is(t, s, want)
	}
}

// P13.1, K2: ErrRow of each row that does not fit, behind what is wrong with the expression, ahead of its own error.
func TestRows(t *testing.T) {
	s := ordinary()
	over := parse(t, "i2 + 1 = 0")
	refused := func(s schema.Schema, r api.Row) {
		t.Helper()
		for _, n := range []api.Node{of("true"), of("false"), of("null"), number("1"), text("x"), col(s[0].Name), col(s[len(s)-1].Name), of("is null", col(s[0].Name))} {
			valued(t, n, s, r, null, api.ErrRow)
		}
		for _, n := range []api.Node{{}, col("z"), of("not", number("1"))} {
			if _, e := calc.Value(n, s, r); e == api.ErrRow || e == api.OK {
				t.Errorf("Value(%s) of a row that does not fit: %d", cut(n), e)
			}
		}
	}
	for n := range len(s) {
		refused(s, values()[:n])
	}
	refused(s, append(values(), null))
	refused(s, append(values(), values()...))
	refused(s, nil)
	refused(s, api.Row{})
	valued(t, over, s, values(), null, api.ErrOver)
	valued(t, over, s, values()[:7], null, api.ErrRow)
	valued(t, over, s, append(values(), null), null, api.ErrRow)
	for i := range s {
		for _, v := range []api.Value{yes, no, ofKind(api.Int32, 1), ofKind(api.Int64, 1), ofText("x")} {
			if r := values(); v.Kind != s[i].Kind {
				r[i] = v
				refused(s, r)
				valued(t, over, s, r, null, api.ErrRow)
			}
		}
		for _, v := range []api.Value{
			{Kind: api.Null, N: 1}, {Kind: api.Null, S: "x"}, {Kind: api.Bool, N: 2}, {Kind: api.Bool, N: -1}, {Kind: api.Bool, N: 1, S: "x"}, {Kind: api.Int32, N: 1 << 31}, {Kind: api.Int32, N: -1<<31 - 1}, {Kind: api.Int32, N: 1, S: "x"}, {Kind: api.Int64, S: "x"}, {Kind: api.Text, N: 1, S: "x"}, {Kind: api.Text, S: times("x", 201)}, {Kind: -1}, {Kind: 5}, {Kind: 5, N: 1, S: "x"},
		} {
			r := values()
			r[i] = v
			refused(s, r)
			valued(t, over, s, r, null, api.ErrRow)
		}
	}
	// No columns: only a row without values fits.
	for _, none := range []schema.Schema{nil, {}, s[:0]} {
		valued(t, of("true"), none, nil, yes, api.OK)
		valued(t, number("1"), none, values()[:0], ofKind(api.Int32, 1), api.OK)
		valued(t, of("true"), none, api.Row{null}, null, api.ErrRow)
		valued(t, number("1"), none, values(), null, api.ErrRow)
	}
}

// P13.1, K2: all Kids' values are taken, from the left, whatever they come to: an error of one, on the left, on the right, or of both, is the node's.
func TestErrors(t *testing.T) {
	bad := []string{"i2 + 1", "-l2", "i2 * i2", "l2 - 1", "-(i2 + 1)", "(i2 + 1) * 0", "0 * (i2 + 1)", "null + (i2 + 1)", "(i2 + 1) - null", "null * -l2"}
	for _, s := range bad {
		over(t, s)
		over(t, "("+s+") is null")
		for _, op := range append(slices.Clone(sums), tests...) {
			for _, o := range append(slices.Clone(bad), "1", "null", "l") {
				over(t, "("+s+") "+op+" ("+o+")")
				over(t, "("+o+") "+op+" ("+s+")")
			}
		}
	}
	for _, s := range bad {
		s = "(" + s + ") = 0"
		over(t, "not ("+s+")")
		over(t, "("+s+") is null")
		for _, o := range []string{"true", "false", "null", "b", "b2", s, "-l2 = 0"} {
			for _, op := range []string{"and", "or", "=", "<"} {
				over(t, "("+s+") "+op+" ("+o+")")
				over(t, "("+o+") "+op+" ("+s+")")
			}
		}
	}
	// What is wrong on the right comes ahead of what is too great on the left, and of a row.
	for text, want := range map[string]api.Errno{"i2 + 1 + z": api.ErrName, "i2 + 1 = 't'": api.ErrType, "i2 + 1 = 0 and z": api.ErrName, "i2 + 1 = 0 and 1": api.ErrType, "z or i2 + 1 = 0": api.ErrName, "-l2 = 0 or 9223372036854775807 + z = 0": api.ErrName} {
		kindOf(t, parse(t, text), ordinary(), api.Null, want)
	}
}

// P13.1, K2: Holds of what is no truth, of null, of each truth, and with each error, in their order.
func TestHolds(t *testing.T) {
	holds := func(s string, r api.Row, want bool, fault api.Errno) {
		t.Helper()
		if is, e := calc.Holds(parse(t, s), ordinary(), r); is != want || e != fault {
			t.Errorf("Holds(%s) of %v: %v, %d, not %v, %d", s, r, is, e, want, fault)
		}
	}
	for _, s := range []string{"true", "b", "i = 7", "not b2", "null is null", "b2 or b", "b and true", "null or b", "b <> b2", "l < i"} {
		holds(s, values(), true, api.OK)
	}
	for _, s := range []string{"false", "b2", "i = 8", "not b", "1 is null", "b2 or false", "b2 and b", "null and b2", "null", "null and b", "null or b2", "not null", "null = null", "-null", "null + null", "null * -null", "i = null"} {
		holds(s, values(), false, api.OK)
	}
	for _, s := range []string{"1", "0", "i", "l", "t", "'true'", "''", "-i", "i + l", "null + 1", "-2147483648", "i2 + 1", "-l2"} {
		// A kind that is no truth's comes ahead of the row, and of what is too great.
		for _, r := range []api.Row{values(), nil, values()[:3], {{Kind: 9}}} {
			holds(s, r, false, api.ErrType)
		}
	}
	for _, s := range []string{"true", "b", "i2 + 1 = 0", "null"} {
		for _, r := range []api.Row{nil, values()[:7], append(values(), null), {{Kind: 9}}} {
			holds(s, r, false, api.ErrRow)
		}
	}
	holds("i2 + 1 = 0", values(), false, api.ErrOver)
	holds("true or -l2 = 0", values(), false, api.ErrOver)
	holds("true or z", values(), false, api.ErrName)
	holds("z", nil, false, api.ErrName)
	holds("true or 1", nil, false, api.ErrType)
}

// P13.1, K1, K2: nodes that are nested far deeper than those that are parsed.
func TestDeep(t *testing.T) {
	for _, deep := range []int{15, 16, 17, 1000, 1 << 16} {
		neg, not, asked, sum, left, right, bad := col("i"), col("b"), of("null"), number("1"), of("true"), of("true"), col("z")
		for range deep - 1 {
			neg, not, asked, bad = of("neg", neg), of("not", not), of("is null", asked), of("not", bad)
			sum, left, right = of("+", sum, number("1")), of("and", left, col("b")), of("or", of("null"), right)
		}
		n, truth := ofKind(api.Int32, 7), yes
		if deep%2 == 0 {
			// An odd number of them turns what there was.
			n, truth = ofKind(api.Int32, -7), no
		}
		valued(t, neg, ordinary(), values(), n, api.OK)
		valued(t, not, ordinary(), values(), truth, api.OK)
		valued(t, sum, ordinary(), values(), ofKind(api.Int32, int64(deep)), api.OK)
		valued(t, left, ordinary(), values(), yes, api.OK)
		valued(t, right, ordinary(), values(), yes, api.OK)
		valued(t, asked, ordinary(), values(), no, api.OK)
		kindOf(t, bad, ordinary(), api.Null, api.ErrName)
		kindOf(t, of("neg", not), ordinary(), api.Null, api.ErrType)
	}
}

// P13.1, K1, K2: a node with many Kids, which is none, and one of many parts.
func TestWide(t *testing.T) {
	kindOf(t, of("and", slices.Repeat([]api.Node{of("true")}, 1<<16)...), ordinary(), api.Null, api.ErrArg)
	kindOf(t, of("and", append(slices.Repeat([]api.Node{of("true")}, 1<<16), col("z"))...), ordinary(), api.Null, api.ErrName)
	n := number("1")
	for range 16 {
		n = of("+", n, n)
	}
	valued(t, n, nil, nil, ofKind(api.Int32, 1<<16), api.OK)
	for range 15 {
		n = of("+", n, number("0"))
		n = of("*", n, number("2"))
		if _, e := calc.Value(n, nil, nil); e != api.OK {
			valued(t, n, nil, nil, null, api.ErrOver)
		}
	}
	valued(t, n, nil, nil, null, api.ErrOver)
}

// show is all that is handed in, and what lies behind the lists' lengths, as a text.
func show(n api.Node, s schema.Schema, r api.Row) string {
	var w strings.Builder
	var node func(n api.Node)
	node = func(n api.Node) {
		w.WriteString("(" + strconv.Quote(n.Op) + strconv.Quote(n.Text))
		for _, k := range n.Kids[:cap(n.Kids)] {
			node(k)
		}
		w.WriteString(")")
	}
	node(n)
	for _, c := range s[:cap(s)] {
		w.WriteString(" " + strconv.Itoa(c.ID) + strconv.Quote(c.Name) + strconv.Itoa(int(c.Kind)))
	}
	for _, v := range r[:cap(r)] {
		w.WriteString(" " + strconv.Itoa(int(v.Kind)) + ":" + strconv.FormatInt(v.N, 10) + strconv.Quote(v.S))
	}
	return w.String()
}

// roomy is a node with Kids that have others behind their length.
func roomy(n api.Node) api.Node {
	l := make([]api.Node, 0, len(n.Kids)+3)
	for _, k := range n.Kids {
		l = append(l, roomy(k))
	}
	behind := append(l, col("z"), number("x"), named("?", "?"))
	n.Kids = behind[:len(l)]
	return n
}

// Rules 2 to 4: nothing is written into what is handed in, nor behind it; what lies behind is not read; what is done to it later changes nothing of what was told.
func TestHandedIn(t *testing.T) {
	for _, text := range []string{"i + 1 = 8 and not b2", "-(i * l) < 30 or t is null", "-l", "t", "i2 + 1", "b and b2 or null", "'x' = t", "z = 1", "i = t", "neg"} {
		n, s, r := roomy(parse(t, text)), append(ordinary(), column(0, "z", api.Int32), column(0, "neg", api.Int32)), append(values(), ofKind(api.Int32, 1), yes)
		s, r = s[:8], r[:8]
		before := show(n, s, r)
		k, e := calc.Type(n, s)
		v, f := calc.Value(n, s, r)
		h, g := calc.Holds(n, s, r)
		if show(n, s, r) != before {
			t.Errorf("%q: what was handed in is %s now, not %s", text, show(n, s, r), before)
		}
		if k2, e2 := calc.Type(parse(t, text), ordinary()); k2 != k || e2 != e {
			t.Errorf("Type(%q): %d, %d, and %d, %d", text, k, e, k2, e2)
		}
		if v2, f2 := calc.Value(parse(t, text), ordinary(), values()); v2 != v || f2 != f {
			t.Errorf("Value(%q): %v, %d, and %v, %d", text, v, f, v2, f2)
		}
		if h2, g2 := calc.Holds(parse(t, text), ordinary(), values()); h2 != h || g2 != g {
			t.Errorf("Holds(%q): %v, %d, and %v, %d", text, h, g, h2, g2)
		}
		told := v
		clear(n.Kids)
		clear(s)
		clear(r)
		if v != told {
			t.Errorf("Value(%q): %v, and later %v", text, told, v)
		}
	}
}
