package calc_test

import (
	"math"
	"math/big"
	"slices"
	"testing"

	"instar/api"
	"instar/calc"
	"instar/schema"
)

// The oracle counts in numbers of any size, and takes null, among truths, for either of them: what comes to one truth, whichever it is, is that.

// rank is a number's kind's, or null's; false of others.
func rank(k api.Kind) (int, bool) {
	at := slices.Index([]api.Kind{api.Null, api.Int32, api.Int64}, k)
	return at, at >= 0
}

// wrong is what is wrong with a node by itself, where nothing is wrong with its Kids, and its kind, if nothing is.
func wrong(n api.Node, s schema.Schema, kids []api.Kind) (api.Kind, api.Errno) {
	texted := n.Op == "num" || n.Op == "text" || n.Op == "col"
	asks := map[string]int{"num": 0, "text": 0, "col": 0, "true": 0, "false": 0, "null": 0, "not": 1, "neg": 1, "is null": 1}
	for _, op := range twos {
		asks[op] = 2
	}
	if count, is := asks[n.Op]; !is || count != len(n.Kids) || n.Text != "" && !texted {
		return 0, api.ErrArg
	}
	switch {
	case n.Op == "num":
		m, is := new(big.Int).SetString(n.Text, 10)
		if !is || !m.IsInt64() || len(n.Text) > 19 || n.Text[0] < '0' {
			return 0, api.ErrArg
		}
		if m.Int64() >= 1<<31 {
			return api.Int64, api.OK
		}
		return api.Int32, api.OK
	case n.Op == "text" && len(n.Text) > 200:
		return 0, api.ErrArg
	case n.Op == "text":
		return api.Text, api.OK
	case n.Op == "col":
		for _, c := range s {
			if c.Name == n.Text {
				return c.Kind, api.OK
			}
		}
		return 0, api.ErrName
	case n.Op == "null":
		return api.Null, api.OK
	case len(kids) == 0 || n.Op == "is null":
		return api.Bool, api.OK
	case n.Op == "neg" || slices.Contains(sums, n.Op):
		widest := 0
		for _, k := range kids {
			r, is := rank(k)
			if !is {
				return 0, api.ErrType
			}
			widest = max(widest, r)
		}
		return []api.Kind{api.Null, api.Int32, api.Int64}[widest], api.OK
	case slices.Contains(tests, n.Op):
		_, one := rank(kids[0])
		_, two := rank(kids[1])
		if one && two || kids[0] == kids[1] || kids[0]*kids[1] == api.Null {
			return api.Bool, api.OK
		}
		return 0, api.ErrType
	}
	for _, k := range kids {
		if k > api.Bool {
			return 0, api.ErrType
		}
	}
	return api.Bool, api.OK
}

// typed is what Type should tell.
func typed(n api.Node, s schema.Schema) (api.Kind, api.Errno) {
	var kids []api.Kind
	for _, kid := range n.Kids {
		k, e := typed(kid, s)
		if e != api.OK {
			return 0, e
		}
		kids = append(kids, k)
	}
	return wrong(n, s, kids)
}

// may are the truths that a value may be.
func may(v api.Value) []bool {
	if v == null {
		return []bool{false, true}
	}
	return []bool{v.N == 1}
}

// only is the truth that all are; null, if they are not one.
func only(l []bool) api.Value {
	switch {
	case !slices.Contains(l, false):
		return yes
	case !slices.Contains(l, true):
		return no
	}
	return null
}

// stands is the value that a node should have, of which the kind is told, and the Kids' values.
func stands(n api.Node, k api.Kind, s schema.Schema, r api.Row, kids []api.Value) (api.Value, api.Errno) {
	var l []bool
	switch n.Op {
	case "col":
		return r[slices.IndexFunc(s, func(c api.Column) bool { return c.Name == n.Text })], api.OK
	case "num":
		m, _ := new(big.Int).SetString(n.Text, 10)
		return ofKind(k, m.Int64()), api.OK
	case "text":
		return ofText(n.Text), api.OK
	case "null":
		return null, api.OK
	case "true", "false", "is null":
		return only([]bool{n.Op == "true" || n.Op == "is null" && kids[0] == null}), api.OK
	case "not":
		for _, a := range may(kids[0]) {
			l = append(l, !a)
		}
		return only(l), api.OK
	case "and", "or":
		for _, a := range may(kids[0]) {
			for _, b := range may(kids[1]) {
				l = append(l, n.Op == "and" && a && b || n.Op == "or" && (a || b))
			}
		}
		return only(l), api.OK
	}
	if slices.Contains(kids, null) {
		return null, api.OK
	}
	a, b := big.NewInt(kids[0].N), big.NewInt(kids[len(kids)-1].N)
	c := a.Cmp(b)
	if kids[0].Kind == api.Text {
		c = slices.Compare([]byte(kids[0].S), []byte(kids[1].S))
	}
	sum := map[string]*big.Int{"neg": new(big.Int).Neg(a), "+": new(big.Int).Add(a, b), "-": new(big.Int).Sub(a, b), "*": new(big.Int).Mul(a, b)}[n.Op]
	if sum == nil {
		return only([]bool{map[string]bool{"=": c == 0, "<>": c != 0, "<": c < 0, "<=": c <= 0, ">": c > 0, ">=": c >= 0}[n.Op]}), api.OK
	}
	bits := uint(31)
	if k == api.Int64 {
		bits = 63
	}
	if most := new(big.Int).Lsh(big.NewInt(1), bits); sum.Cmp(most) >= 0 || sum.Cmp(new(big.Int).Neg(most)) < 0 {
		return null, api.ErrOver
	}
	return ofKind(k, sum.Int64()), api.OK
}

// worth is the value that a node should have, with which nothing is wrong, for a row that fits.
func worth(n api.Node, s schema.Schema, r api.Row) (api.Value, api.Errno) {
	var kids []api.Value
	for _, kid := range n.Kids {
		v, e := worth(kid, s, r)
		if e != api.OK {
			return null, e
		}
		kids = append(kids, v)
	}
	k, _ := typed(n, s)
	return stands(n, k, s, r, kids)
}

// fits says of a row that it fits the columns' kinds, value by value.
func fits(s schema.Schema, r api.Row) bool {
	if len(s) != len(r) {
		return false
	}
	for i, v := range r {
		right := v == null || v.Kind == s[i].Kind && (v.Kind == api.Text && v.N == 0 && len(v.S) <= 200 || v.Kind != api.Text && v.S == "")
		if !right || v.Kind == api.Bool && v.N>>1 != 0 || v.Kind == api.Int32 && v.N != int64(int32(v.N)) {
			return false
		}
	}
	return true
}

// agrees holds all three calls against the oracle; a value is null, or of its expression's kind.
func agrees(t *testing.T, n api.Node, s schema.Schema, rows ...api.Row) {
	t.Helper()
	k, e := typed(n, s)
	if got, fault := calc.Type(n, s); got != k || fault != e {
		t.Fatalf("Type(%v): %d, %d, not %d, %d", n, got, fault, k, e)
	}
	for _, r := range rows {
		v, fault := null, e
		switch {
		case e != api.OK:
		case !fits(s, r):
			fault = api.ErrRow
		default:
			v, fault = worth(n, s, r)
		}
		got, f := calc.Value(n, s, r)
		if got != v || f != fault {
			t.Fatalf("Value(%v) of %v: %v, %d, not %v, %d", n, r, got, f, v, fault)
		}
		if got.Kind != api.Null && got.Kind != k {
			t.Fatalf("Value(%v) of %v: %v, of the kind %d", n, r, got, k)
		}
		if e == api.OK && k > api.Bool {
			v, fault = null, api.ErrType
		}
		if is, f := calc.Holds(n, s, r); is != (v == yes) || f != fault {
			t.Fatalf("Holds(%v) of %v: %v, %d, not %v, %d", n, r, is, f, v, fault)
		}
	}
}

// made are the nodes of each Op of some Kids, and of pairs of some with others.
func made(l, others []api.Node) []api.Node {
	var all []api.Node
	for _, n := range l {
		for _, op := range ones {
			all = append(all, of(op, n))
		}
		for _, o := range others {
			for _, op := range twos {
				all = append(all, of(op, n, o), of(op, o, n))
			}
		}
	}
	return all
}

// P13.1, P13.2: all expressions of some leaves, that are nested up to thrice, right ones and wrong ones, for rows that fit, and that don't.
func TestAll(t *testing.T) {
	s := schema.Schema{column(3, "b", api.Bool), column(1, "i", api.Int32), column(2, "l", api.Int64), column(7, "t", api.Text), column(5, "i", api.Bool)}
	rows := []api.Row{
		{yes, ofKind(api.Int32, math.MaxInt32), ofKind(api.Int64, math.MinInt64), ofText("ab"), no},
		{no, ofKind(api.Int32, math.MinInt32), ofKind(api.Int64, 1), ofText("a"), yes},
		{null, null, null, null, null},
		{yes, ofKind(api.Int32, 0), ofKind(api.Int32, 0), ofText(""), no},
	}
	some := []api.Node{of("null"), of("true"), col("b"), col("i"), col("l"), col("t"), number("1"), number("2147483648"), text("a"), col("z"), {}}
	leaves := append(slices.Clone(some), of("false"), number("0"), number("2147483647"), number("9223372036854775807"), number("9223372036854775808"), text(""), text(times("x", 201)), named("null", "x"), named("col", "b", of("true")), of("and", of("true")))
	for _, n := range append(leaves, made(leaves, leaves)...) {
		agrees(t, n, s, rows...)
	}
	twice := made(some, some)
	for i, n := range made(twice, some) {
		agrees(t, n, s, rows[i%4])
	}
	var few []api.Node
	for i := 0; i < len(twice); i += 31 {
		few = append(few, twice[i])
	}
	for i, n := range made(few, few) {
		agrees(t, n, s, rows[i%4], rows[(i+1)%4])
	}
}
