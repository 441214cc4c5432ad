package ddl_test

import (
	"math"
	"strconv"
	"strings"
	"testing"

	"instar/api"
	"instar/ddl"
)

// Short forms of values.
func ofKind(k api.Kind, n int64) api.Value { return api.Value{Kind: k, N: n} }
func ofText(s string) api.Value            { return api.Value{Kind: api.Text, S: s} }

// columns are the kinds of columns; noKinds are null, and what is no kind at all.
var (
	columns = []api.Kind{api.Bool, api.Int32, api.Int64, api.Text}
	noKinds = []api.Kind{api.Null, api.Null - 1, api.Text + 1, math.MaxInt, math.MinInt}
)

// valued holds a literal's value of a kind against what it should be.
func valued(t *testing.T, n api.Node, k api.Kind, want api.Value, fault api.Errno) {
	t.Helper()
	if v, e := ddl.Literal(n, k); v != want || e != fault {
		t.Errorf("Literal(%v, %d): %v, %d, not %v, %d", n, k, v, e, want, fault)
	}
}

// P11.1, D2: a number, with and without a sign, with noughts ahead, of each kind that has it; what is narrower has not.
func TestNumbers(t *testing.T) {
	for _, n := range []int64{0, 1, 2, 7, 10, 999, math.MaxInt32 - 1, math.MaxInt32, math.MaxInt32 + 1, math.MaxInt32 + 2, math.MaxUint32, math.MaxUint32 + 1, 1000000000000000000, math.MaxInt64 - 1, math.MaxInt64} {
		for _, noughts := range []int{0, 1, 2, 9, 18} {
			s := times("0", noughts) + strconv.FormatInt(n, 10)
			if len(s) > 19 {
				// There may be no more figures.
				for _, k := range columns {
					valued(t, number(s), k, api.Value{}, api.ErrArg)
					valued(t, below(s), k, api.Value{}, api.ErrArg)
				}
				continue
			}
			numbers(t, number(s), n)
			numbers(t, below(s), -n)
		}
	}
}

// numbers holds a literal of that number against what it should be of each kind.
func numbers(t *testing.T, l api.Node, n int64) {
	t.Helper()
	valued(t, l, api.Int64, ofKind(api.Int64, n), api.OK)
	valued(t, l, api.Text, api.Value{}, api.ErrCast)
	if n == int64(int32(n)) {
		valued(t, l, api.Int32, ofKind(api.Int32, n), api.OK)
	} else {
		valued(t, l, api.Int32, api.Value{}, api.ErrNarrow)
	}
	if n == 0 || n == 1 {
		valued(t, l, api.Bool, ofKind(api.Bool, n), api.OK)
	} else {
		valued(t, l, api.Bool, api.Value{}, api.ErrNarrow)
	}
}

// P11.1, D2: the least and the greatest numbers of 32 and of 64 bits, and those one beyond.
func TestEdges(t *testing.T) {
	numbers(t, number("2147483647"), math.MaxInt32)
	numbers(t, number("2147483648"), math.MaxInt32+1)
	numbers(t, below("2147483648"), math.MinInt32)
	numbers(t, below("2147483649"), math.MinInt32-1)
	numbers(t, number("9223372036854775807"), math.MaxInt64)
	numbers(t, below("9223372036854775807"), math.MinInt64+1)
	numbers(t, below("0"), 0)
	numbers(t, below("1"), -1)
	numbers(t, number(times("0", 19)), 0)
	numbers(t, number(times("0", 18)+"1"), 1)
	numbers(t, below(times("0", 9)+"2147483648"), math.MinInt32)
	valued(t, below("2147483648"), api.Int32, ofKind(api.Int32, math.MinInt32), api.OK)
	valued(t, below("2147483649"), api.Int32, api.Value{}, api.ErrNarrow)
	// The least number of 64 bits is none: without its sign it is too great.
	for _, s := range []string{"9223372036854775808", "9223372036854775809", "9223372036854775810", "9223372036854775900", "9300000000000000000", "9999999999999999999", "10000000000000000000", "18446744073709551616", "18446744073709551617", times("0", 20), times("0", 19) + "1", times("0", 1000), times("1", 25), "", "-", "-1", "- 1", "+1", " 1", "1 ", "1a", "a", "a1", "1_0", "1.0", "0x1", "1e3", "null", "true", "'1'", "\x00", "1\x00", "\xff", "/", ":", "1/", "1:", "٣", "1٣", "é", "1,0", "１", times("٣", 9)} {
		for _, k := range columns {
			valued(t, number(s), k, api.Value{}, api.ErrArg)
			valued(t, below(s), k, api.Value{}, api.ErrArg)
		}
	}
}

// P11.1, D2: truths, null and texts, of each kind.
func TestOthers(t *testing.T) {
	for i, op := range []string{"false", "true"} {
		for _, k := range columns[:3] {
			valued(t, of(op), k, ofKind(k, int64(i)), api.OK)
		}
		valued(t, of(op), api.Text, api.Value{}, api.ErrCast)
	}
	for _, k := range columns {
		valued(t, null, k, api.Value{}, api.OK)
	}
	for _, s := range []string{"", "x", "it's", "1", "-1", "true", "null", "\x00", "\xff", "?", times("x", 199), times("x", 200), times("'", 200)} {
		valued(t, text(s), api.Text, ofText(s), api.OK)
		for _, k := range columns[:3] {
			valued(t, text(s), k, api.Value{}, api.ErrCast)
		}
	}
	for _, s := range []string{times("x", 201), times("'", 201), times("é", 101), times("x", 1<<16)} {
		for _, k := range columns {
			valued(t, text(s), k, api.Value{}, api.ErrArg)
		}
	}
}

// P11.1, D2: ErrArg of each kind that is no column's, whatever the literal is.
func TestNoKinds(t *testing.T) {
	for _, n := range []api.Node{one, below("1"), number(times("9", 18)), number(times("9", 19)), of("true"), of("false"), null, text("x"), text(times("x", 201)), {}, a, of("+", one, one)} {
		for _, k := range noKinds {
			valued(t, n, k, api.Value{}, api.ErrArg)
		}
	}
}

// P11.1, D2: ErrArg of what is no Literal, or is not right, of each kind.
func TestNoLiteral(t *testing.T) {
	for _, n := range []api.Node{
		{}, a, t0, kind("bool"), bools, of("?"), of("+", one, one), of("-", one), of("+"), of("not", of("true")), of("is null", null), of("Null"), of("TRUE"), of("num"), named("Num", "1"), named("", "1"), named("", "null"), of("or", one, one), named("col", "null"), named("col", "1"),
		named("num", "1", one), named("num", "1", api.Node{}), named("text", "x", one), named("text", "x", api.Node{}), of("true", one), of("false", one), of("true", api.Node{}), of("false", of("false")), of("null", null), of("null", api.Node{}),
		named("true", "x"), named("false", "x"), named("null", "x"), named("true", "true"), named("false", "false"), named("null", "null"), named("null", " "), named("neg", "x", one), named("neg", "-", one), named("neg", "1"), named("neg", "x", number("0")),
		of("neg"), of("neg", one, one), of("neg", below("1")), of("neg", text("1")), of("neg", null), of("neg", of("true")), of("neg", of("false")), of("neg", a), of("neg", api.Node{}), of("neg", named("num", "1", one)), of("neg", named("num", "1", api.Node{})), of("neg", one, api.Node{}), of("neg", of("+", one, one)), of("neg", of("num")),
	} {
		for _, k := range columns {
			valued(t, n, k, api.Value{}, api.ErrArg)
		}
	}
	for _, s := range samples() {
		valued(t, s.node, api.Int64, api.Value{}, api.ErrArg)
	}
}

// P11.1, D1, D2: the literal of a text has the value that its words say.
func TestLiteralOfText(t *testing.T) {
	for s, want := range map[string]api.Value{
		"": {}, "= null": {}, "= 0": ofKind(api.Int64, 0), "= 007": ofKind(api.Int64, 7), "= - 07": ofKind(api.Int64, -7), "= -0": ofKind(api.Int64, 0), "= 9223372036854775807": ofKind(api.Int64, math.MaxInt64), "= -9223372036854775807": ofKind(api.Int64, -math.MaxInt64), "= 2147483648": ofKind(api.Int64, 1<<31), "= true": ofKind(api.Int64, 1), "= false": ofKind(api.Int64, 0),
	} {
		n, _, e := ddl.Parse(strings.TrimSpace("alter t add c int64 " + s))
		if e != api.OK || len(n.Kids) != 2 {
			t.Fatalf("%q: %v, %d", s, n, e)
		}
		valued(t, n.Kids[1], api.Int64, want, api.OK)
		// A list without elements may be nil or not.
		n.Kids[1].Kids = append([]api.Node{}, n.Kids[1].Kids...)
		valued(t, n.Kids[1], api.Int64, want, api.OK)
	}
	n, _, _ := ddl.Parse("alter t add c text = 'it''s'")
	valued(t, n.Kids[1], api.Text, ofText("it's"), api.OK)
}
