package zset

import (
	"math"
	"math/big"
	"slices"
	"strings"
	"testing"

	"instar/api"
	"instar/row"
)

// The ends of 64 bits.
const (
	least = math.MinInt64
	most  = math.MaxInt64
)

// Short forms of values, rows and items.
func null() api.Value                   { return api.Value{} }
func truth(n int64) api.Value           { return api.Value{Kind: api.Bool, N: n} }
func small(n int64) api.Value           { return api.Value{Kind: api.Int32, N: n} }
func long(n int64) api.Value            { return api.Value{Kind: api.Int64, N: n} }
func text(s string) api.Value           { return api.Value{Kind: api.Text, S: s} }
func of(l ...api.Value) api.Row         { return l }
func item(r api.Row, n int64) api.Item  { return api.Item{Row: r, Weight: n} }
func list(l ...api.Item) Set            { return l }
func repeat(v api.Value, n int) api.Row { return slices.Repeat(of(v), n) }

// a, b and c are rows, rising.
func a() api.Row { return of(small(1)) }
func b() api.Row { return of(small(2), null()) }
func c() api.Row { return of(text("c")) }

// rows are right ones, rising, none of two the same: with no value, with one, and with 23 and 24.
func rows() []api.Row {
	return []api.Row{
		nil, of(null()), of(null(), null()), repeat(null(), 23), repeat(null(), 24), of(null(), text("")), of(truth(0)), of(truth(1)), of(truth(1), null()),
		of(small(math.MinInt32)), of(small(-1)), of(small(1)), of(small(1), small(-5)), of(small(1), small(5)), of(small(2)), of(long(least)), of(long(-1)), of(long(most)),
		of(text("")), of(text("\x00")), of(text("a")), of(text("a"), text("b")), of(text("a\x00")), of(text("ab")), repeat(text(strings.Repeat("x", 200)), 24), of(text("\xff")),
	}
}

// wrongs are rows that are not right, by a value, at either end of them, or by how many they have.
func wrongs() []api.Row {
	l := []api.Row{repeat(null(), 25), repeat(small(1), 25), repeat(null(), 30), repeat(null(), 1000)}
	for _, v := range []api.Value{{N: 1}, {S: "a"}, truth(2), truth(-1), small(1 << 31), {Kind: api.Int64, S: "a"}, text(strings.Repeat("x", 201)), {Kind: api.Text, N: 1}, {Kind: 5}, {Kind: -1}} {
		l = append(l, of(v), of(small(1), v), of(v, small(1)), append(repeat(null(), 23), v))
	}
	return l
}

// equal tells whether two lists have the same items, one by one.
func equal(a, b []api.Item) bool {
	return slices.EqualFunc(a, b, func(x, y api.Item) bool { return x.Weight == y.Weight && slices.Equal(x.Row, y.Row) })
}

// copied is items at other places in memory.
func copied(l []api.Item) []api.Item {
	var k []api.Item
	for _, x := range l {
		k = append(k, item(append(api.Row{}, x.Row...), x.Weight))
	}
	return k
}

// orders are all orders of items.
func orders(l []api.Item) [][]api.Item {
	if len(l) == 0 {
		return [][]api.Item{nil}
	}
	var all [][]api.Item
	for i, x := range l {
		rest := append(slices.Clone(l[:i]), l[i+1:]...)
		for _, o := range orders(rest) {
			all = append(all, append([]api.Item{x}, o...))
		}
	}
	return all
}

// exact is the sum of items by the document's words, each weight times sign, in numbers without bounds.
func exact(sign int64, l ...api.Item) (Set, api.Errno) {
	total := map[string]*big.Int{}
	var there []api.Row
	for _, x := range l {
		if !row.Right(x.Row) {
			return nil, api.ErrRow
		}
		k := row.Key(x.Row)
		if total[k] == nil {
			total[k] = new(big.Int)
			there = append(there, x.Row)
		}
		total[k].Add(total[k], new(big.Int).Mul(big.NewInt(sign), big.NewInt(x.Weight)))
	}
	slices.SortFunc(there, row.Compare)
	var s Set
	for _, r := range there {
		n := total[row.Key(r)]
		if !n.IsInt64() {
			return nil, api.ErrOver
		}
		if n.Sign() != 0 {
			s = append(s, item(r, n.Int64()))
		}
	}
	return s, api.OK
}

// some are n items, each a row of l with a weight, that hang on seed.
func some(seed, n int, l []api.Row, weights ...int64) []api.Item {
	var items []api.Item
	u := uint64(seed)*2 + 1
	for range n {
		u = u*6364136223846793005 + 1442695040888963407
		items = append(items, item(l[int(u>>33)%len(l)], weights[int(u>>48)%len(weights)]))
	}
	return items
}

// lists are items of all sorts, few and many, with weights that cancel and ones at the ends of 64 bits.
func lists() [][]api.Item {
	l := [][]api.Item{nil, {}}
	for seed := range 400 {
		l = append(l, some(seed, seed%17, rows(), -2, -1, 0, 1, 2), some(seed, seed%13, rows()[:5], -1, 1, 3), some(seed, seed%9, rows()[3:7], least, most, -1, 1, 5))
	}
	l = append(l, some(1, 3000, rows(), -7, 0, 9), some(2, 1000, rows()[:1], least, most))
	for seed, w := range wrongs() {
		l = append(l, some(seed, 6, append(rows()[:4], w), 0, 1, -1, most))
	}
	return l
}

// sets are the sums of the lists that have one.
func sets() []Set {
	var l []Set
	for _, k := range lists() {
		if s, e := exact(1, k...); e == api.OK {
			l = append(l, s)
		}
	}
	return l
}

// cases of items, and what they come to.
type sumCase struct {
	l, want []api.Item
	e       api.Errno
}

// over are items of at most five, whose sums are at the ends of 64 bits, within and outside, also on the way only.
func over() []sumCase {
	none := []api.Item(nil)
	return []sumCase{
		{list(item(a(), most)), list(item(a(), most)), api.OK},
		{list(item(a(), least)), list(item(a(), least)), api.OK},
		{list(item(a(), most-1), item(a(), 1)), list(item(a(), most)), api.OK},
		{list(item(a(), most), item(a(), 1)), none, api.ErrOver},
		{list(item(a(), least+1), item(a(), -1)), list(item(a(), least)), api.OK},
		{list(item(a(), least), item(a(), -1)), none, api.ErrOver},
		{list(item(a(), most), item(a(), least)), list(item(a(), -1)), api.OK},
		{list(item(a(), most), item(a(), -most)), none, api.OK},
		{list(item(a(), least), item(a(), most), item(a(), 1)), none, api.OK},
		{list(item(a(), least), item(a(), least)), none, api.ErrOver},
		{list(item(a(), most), item(a(), most)), none, api.ErrOver},
		{list(item(a(), 1<<62), item(a(), 1<<62)), none, api.ErrOver},
		{list(item(a(), -1<<62), item(a(), -1<<62)), list(item(a(), least)), api.OK},
		// The document's fourth example.
		{list(item(a(), most), item(a(), most), item(a(), least+1)), list(item(a(), most)), api.OK},
		// Outside on the way only, in most of their orders.
		{list(item(a(), most), item(a(), 5), item(a(), -5)), list(item(a(), most)), api.OK},
		{list(item(a(), least), item(a(), least), item(a(), most), item(a(), most)), list(item(a(), -2)), api.OK},
		{list(item(a(), least), item(a(), least), item(a(), most), item(a(), most), item(a(), 2)), none, api.OK},
		{list(item(a(), most), item(a(), most), item(a(), most), item(a(), least), item(a(), least)), list(item(a(), most-2)), api.OK},
		{list(item(a(), least), item(a(), least), item(a(), least), item(a(), most), item(a(), most)), none, api.ErrOver},
		// 2^64 in all, which is 0 where sums go round.
		{list(item(a(), most), item(a(), most), item(a(), 2)), none, api.ErrOver},
		// Each row has a sum of its own.
		{list(item(a(), most), item(b(), most)), list(item(a(), most), item(b(), most)), api.OK},
		{list(item(a(), most), item(b(), 1), item(c(), least)), list(item(a(), most), item(b(), 1), item(c(), least)), api.OK},
		{list(item(a(), 1), item(b(), most), item(b(), 1)), none, api.ErrOver},
		{list(item(a(), most), item(b(), 1), item(a(), 1), item(b(), -1)), none, api.ErrOver},
		{list(item(a(), most), item(b(), most), item(a(), least), item(b(), 1), item(b(), -1)), list(item(a(), -1), item(b(), most)), api.OK},
		{list(item(a(), 1), item(b(), 1), item(c(), least), item(c(), -1)), none, api.ErrOver},
	}
}

// P6.1, Z1: Of, by cases.
func TestOf(t *testing.T) {
	n24, x24 := repeat(null(), 24), repeat(text("x"), 24)
	for _, k := range []sumCase{
		{nil, nil, api.OK}, {list(), nil, api.OK},
		{list(item(a(), 1)), list(item(a(), 1)), api.OK}, {list(item(a(), -1)), list(item(a(), -1)), api.OK}, {list(item(a(), 0)), nil, api.OK},
		{list(item(b(), 2), item(a(), 1)), list(item(a(), 1), item(b(), 2)), api.OK},
		{list(item(c(), 3), item(a(), 1), item(b(), 2)), list(item(a(), 1), item(b(), 2), item(c(), 3)), api.OK},
		{list(item(a(), 1), item(a(), 2)), list(item(a(), 3)), api.OK}, {list(item(a(), 1), item(a(), -1)), nil, api.OK}, {list(item(a(), 2), item(a(), -3)), list(item(a(), -1)), api.OK},
		{list(item(a(), 1), item(b(), 5), item(a(), -1)), list(item(b(), 5)), api.OK}, {list(item(a(), 1), item(b(), 0), item(c(), 4)), list(item(a(), 1), item(c(), 4)), api.OK},
		{list(item(a(), 0), item(a(), 0), item(a(), 7)), list(item(a(), 7)), api.OK}, {list(item(b(), 1), item(a(), 1), item(b(), 1), item(a(), 1)), list(item(a(), 2), item(b(), 2)), api.OK},
		// Rows of no value, and of as many as may be.
		{list(item(nil, 3)), list(item(nil, 3)), api.OK}, {list(item(nil, 3), item(api.Row{}, 4)), list(item(nil, 7)), api.OK}, {list(item(a(), 1), item(nil, 3)), list(item(nil, 3), item(a(), 1)), api.OK},
		{list(item(x24, 1), item(n24, 2), item(x24, 3)), list(item(n24, 2), item(x24, 4)), api.OK},
		// Rows that are alike, and not one.
		{list(item(of(long(1)), 1), item(of(small(1)), 2), item(of(truth(1)), 3)), list(item(of(truth(1)), 3), item(of(small(1)), 2), item(of(long(1)), 1)), api.OK},
		{list(item(of(text("")), 1), item(of(null()), 1), item(nil, 1)), list(item(nil, 1), item(of(null()), 1), item(of(text("")), 1)), api.OK},
		{list(item(of(text("ab")), 1), item(of(text("a\x00")), 2), item(of(text("a"), text("b")), 3), item(of(text("a")), 4)), list(item(of(text("a")), 4), item(of(text("a"), text("b")), 3), item(of(text("a\x00")), 2), item(of(text("ab")), 1)), api.OK},
	} {
		if s, e := Of(k.l...); !equal(s, k.want) || e != k.e {
			t.Errorf("Of(%v): %v, %d; not %v, %d", k.l, s, e, k.want, k.e)
		}
	}
	if s, e := Of(); len(s) != 0 || e != api.OK {
		t.Errorf("Of of none: %v, %d", s, e)
	}
}

// P6.1, Z1: Of, Add and Neg at the ends of 64 bits, in all orders.
func TestOver(t *testing.T) {
	for _, k := range over() {
		for _, l := range orders(k.l) {
			if s, e := Of(l...); !equal(s, k.want) || e != k.e || e != api.OK && s != nil {
				t.Errorf("Of(%v): %v, %d; not %v, %d", l, s, e, k.want, k.e)
			}
			for i := range len(l) + 1 {
				if s, e := Add(l[:i], l[i:]); !equal(s, k.want) || e != k.e || e != api.OK && s != nil {
					t.Errorf("Add(%v, %v): %v, %d; not %v, %d", l[:i], l[i:], s, e, k.want, k.e)
				}
			}
			want, e := exact(-1, l...)
			if s, f := Set(l).Neg(); !equal(s, want) || f != e || f != api.OK && s != nil {
				t.Errorf("%v.Neg(): %v, %d; not %v, %d", l, s, f, want, e)
			}
		}
	}
}

// P6.1, Z1: ErrRow wherever a row is not right, whatever its weights come to, and ahead of ErrOver.
func TestErrRow(t *testing.T) {
	for _, w := range wrongs() {
		for _, l := range [][]api.Item{
			{item(w, 1)}, {item(w, 0)}, {item(w, least)}, {item(w, 1), item(w, -1)}, {item(w, most), item(w, most)},
			{item(a(), 1), item(w, 1), item(c(), 1)}, {item(a(), 1), item(w, 0)}, {item(a(), 1), item(a(), -1), item(w, 1), item(w, -1)},
			{item(a(), most), item(a(), 1), item(w, 1)}, {item(a(), least), item(w, 0), item(a(), least)}, {item(c(), most), item(w, 1), item(c(), most)},
		} {
			for _, o := range orders(l) {
				if s, e := Of(o...); s != nil || e != api.ErrRow {
					t.Errorf("Of(%v): %v, %d", o, s, e)
				}
				if s, e := Set(o).Neg(); s != nil || e != api.ErrRow {
					t.Errorf("%v.Neg(): %v, %d", o, s, e)
				}
				if s, e := Add(list(item(a(), most)), o, list(item(a(), most))); s != nil || e != api.ErrRow {
					t.Errorf("Add of %v: %v, %d", o, s, e)
				}
			}
		}
	}
	for n := range 60 {
		want := api.OK
		if n > 24 {
			want = api.ErrRow
		}
		if s, e := Of(item(repeat(small(1), n), 2)); e != want || (len(s) == 1) != (n <= 24) {
			t.Errorf("Of a row of %d values: %v, %d", n, s, e)
		}
	}
}

// P6.1, Z1: Add, by cases, of sets and of lists that are none.
func TestAdd(t *testing.T) {
	for _, k := range []struct {
		l    []Set
		want Set
	}{
		{nil, nil}, {[]Set{}, nil}, {[]Set{nil}, nil}, {[]Set{nil, {}, nil}, nil},
		{[]Set{list(item(a(), 1))}, list(item(a(), 1))}, {[]Set{nil, list(item(a(), 1)), {}}, list(item(a(), 1))},
		{[]Set{list(item(a(), 1)), list(item(b(), 2))}, list(item(a(), 1), item(b(), 2))}, {[]Set{list(item(b(), 2)), list(item(a(), 1))}, list(item(a(), 1), item(b(), 2))},
		{[]Set{list(item(a(), 1), item(c(), 3)), list(item(b(), 2))}, list(item(a(), 1), item(b(), 2), item(c(), 3))},
		{[]Set{list(item(a(), 1), item(b(), 2)), list(item(a(), 3), item(b(), -2))}, list(item(a(), 4))},
		{[]Set{list(item(a(), 1)), list(item(a(), 1)), list(item(a(), -2))}, nil},
		{[]Set{list(item(a(), most)), list(item(a(), most)), list(item(a(), least)), list(item(a(), least))}, list(item(a(), -2))},
		{[]Set{list(item(nil, 1)), list(item(api.Row{}, 1))}, list(item(nil, 2))},
		{[]Set{list(item(b(), 1), item(a(), 1), item(b(), 1)), list(item(c(), 0), item(a(), 0))}, list(item(a(), 1), item(b(), 2))},
	} {
		if s, e := Add(k.l...); !equal(s, k.want) || e != api.OK {
			t.Errorf("Add(%v): %v, %d; not %v", k.l, s, e, k.want)
		}
	}
	if s, e := Add(); len(s) != 0 || e != api.OK {
		t.Errorf("Add of none: %v, %d", s, e)
	}
	s := list(item(a(), 1), item(b(), -3))
	if d, e := Add(s, s); !equal(d, list(item(a(), 2), item(b(), -6))) || e != api.OK {
		t.Errorf("Add of a set twice: %v, %d", d, e)
	}
}

// P6.1, Z1: Neg, by cases; the least weight has none, but as a part of a row's weights.
func TestNeg(t *testing.T) {
	for _, k := range []sumCase{
		{nil, nil, api.OK}, {list(), nil, api.OK}, {list(item(a(), 1)), list(item(a(), -1)), api.OK}, {list(item(a(), -1)), list(item(a(), 1)), api.OK},
		{list(item(a(), 1), item(b(), -2), item(c(), 3)), list(item(a(), -1), item(b(), 2), item(c(), -3)), api.OK},
		{list(item(a(), most)), list(item(a(), -most)), api.OK}, {list(item(a(), -most)), list(item(a(), most)), api.OK}, {list(item(a(), least)), nil, api.ErrOver},
		{list(item(a(), 1), item(b(), 1), item(c(), least)), nil, api.ErrOver}, {list(item(a(), least), item(b(), 1)), nil, api.ErrOver},
		// Of lists that are no sets.
		{list(item(a(), least), item(a(), 1)), list(item(a(), most)), api.OK}, {list(item(a(), most), item(a(), 1)), list(item(a(), least)), api.OK}, {list(item(a(), most), item(a(), 2)), nil, api.ErrOver},
		{list(item(a(), 0)), nil, api.OK}, {list(item(c(), 1), item(a(), 2), item(c(), -3)), list(item(a(), -2), item(c(), 2)), api.OK},
	} {
		if s, e := Set(k.l).Neg(); !equal(s, k.want) || e != k.e {
			t.Errorf("%v.Neg(): %v, %d; not %v, %d", k.l, s, e, k.want, k.e)
		}
	}
}

// P6.1, Z1: sums of all lists, held against numbers without bounds, of a row many times among them.
func TestSumsExact(t *testing.T) {
	all := lists()
	for i, l := range all {
		want, e := exact(1, l...)
		if s, f := Of(l...); !equal(s, want) || f != e || s == nil && len(want) != 0 {
			t.Errorf("Of(%v): %v, %d; not %v, %d", l, s, f, want, e)
		}
		if s, f := Add(l, nil); !equal(s, want) || f != e {
			t.Errorf("Add(%v): %v, %d; not %v, %d", l, s, f, want, e)
		}
		want, e = exact(-1, l...)
		if s, f := Set(l).Neg(); !equal(s, want) || f != e {
			t.Errorf("%v.Neg(): %v, %d; not %v, %d", l, s, f, want, e)
		}
		other := all[(i*7+3)%len(all)]
		want, e = exact(1, slices.Concat(l, other, l)...)
		if s, f := Add(l, other, l); !equal(s, want) || f != e {
			t.Errorf("Add(%v, %v) and the first again: %v, %d; not %v, %d", l, other, s, f, want, e)
		}
	}
	for _, n := range []int{1, 2, 1000, 100000} {
		if s, e := Of(slices.Repeat(list(item(a(), 3), item(b(), -1)), n)...); !equal(s, list(item(a(), 3*int64(n)), item(b(), -int64(n)))) || e != api.OK {
			t.Errorf("Of two rows %d times: %v, %d", n, s, e)
		}
	}
}

// P6.1, Z2: Get, of each row that is there, and of such as are before, between and behind.
func TestGet(t *testing.T) {
	for _, s := range sets() {
		for _, r := range rows() {
			want := int64(0)
			for _, x := range s {
				if slices.Equal(x.Row, r) {
					want = x.Weight
				}
			}
			if n := s.Get(append(api.Row{}, r...)); n != want {
				t.Errorf("%v.Get(%v): %d, not %d", s, r, n, want)
			}
		}
		for _, r := range wrongs() {
			if n := s.Get(r); n != 0 {
				t.Errorf("%v.Get(%v): %d", s, r, n)
			}
		}
	}
	// Every other one of as many rows as are named.
	for n := range 40 {
		var s Set
		for i := range n {
			s = append(s, item(of(small(int64(2*i+1))), int64(i+1)))
		}
		for i := range int64(2*n + 1) {
			want := (i + 1) / 2 * (i % 2)
			if got := s.Get(of(small(i))); got != want {
				t.Errorf("Get of %d of %d rows: %d, not %d", i, n, got, want)
			}
		}
	}
	s := list(item(nil, 4), item(of(null()), least), item(of(null(), null()), most))
	if s.Get(nil) != 4 || s.Get(api.Row{}) != 4 || s.Get(of(null())) != least || s.Get(repeat(null(), 2)) != most || s.Get(repeat(null(), 3)) != 0 {
		t.Errorf("Get of %v", s)
	}
	if Set(nil).Get(nil) != 0 || Set(nil).Get(a()) != 0 || (Set{}).Get(a()) != 0 {
		t.Error("Get of no row")
	}
}

// P6.1, Z2: Distinct, Total and Positive, by cases.
func TestTold(t *testing.T) {
	for _, k := range []struct {
		s, distinct Set
		total       int64
		e           api.Errno
		positive    bool
	}{
		{nil, nil, 0, api.OK, true}, {Set{}, nil, 0, api.OK, true},
		{list(item(a(), 1)), list(item(a(), 1)), 1, api.OK, true}, {list(item(a(), 7)), list(item(a(), 1)), 7, api.OK, true}, {list(item(a(), -1)), nil, -1, api.OK, false}, {list(item(a(), -7)), nil, -7, api.OK, false},
		{list(item(a(), 2), item(b(), -2), item(c(), 3)), list(item(a(), 1), item(c(), 1)), 3, api.OK, false}, {list(item(a(), -2), item(b(), 2)), list(item(b(), 1)), 0, api.OK, false},
		{list(item(a(), 2), item(b(), 1), item(c(), -1)), list(item(a(), 1), item(b(), 1)), 2, api.OK, false}, {list(item(nil, 2), item(repeat(null(), 24), 3)), list(item(nil, 1), item(repeat(null(), 24), 1)), 5, api.OK, true},
		{list(item(a(), most)), list(item(a(), 1)), most, api.OK, true}, {list(item(a(), least)), nil, least, api.OK, false},
		{list(item(a(), most-1), item(b(), 1)), list(item(a(), 1), item(b(), 1)), most, api.OK, true}, {list(item(a(), most), item(b(), 1)), list(item(a(), 1), item(b(), 1)), 0, api.ErrOver, true}, {list(item(a(), 1), item(b(), most)), list(item(a(), 1), item(b(), 1)), 0, api.ErrOver, true},
		{list(item(a(), least+1), item(b(), -1)), nil, least, api.OK, false}, {list(item(a(), least), item(b(), -1)), nil, 0, api.ErrOver, false}, {list(item(a(), least), item(b(), most)), list(item(b(), 1)), -1, api.OK, false},
		// Outside on the way only, to each side.
		{list(item(a(), most), item(b(), 5), item(c(), -5)), list(item(a(), 1), item(b(), 1)), most, api.OK, false}, {list(item(a(), least), item(b(), -5), item(c(), 5)), list(item(c(), 1)), least, api.OK, false},
		{list(item(a(), least), item(b(), least), item(c(), most)), list(item(c(), 1)), 0, api.ErrOver, false},
		// 2^64 in all, which is 0 where sums go round.
		{list(item(a(), most), item(b(), most), item(c(), 2)), list(item(a(), 1), item(b(), 1), item(c(), 1)), 0, api.ErrOver, true},
	} {
		if d := k.s.Distinct(); !equal(d, k.distinct) {
			t.Errorf("%v.Distinct(): %v, not %v", k.s, d, k.distinct)
		}
		if n, e := k.s.Total(); n != k.total || e != k.e {
			t.Errorf("%v.Total(): %d, %d; not %d, %d", k.s, n, e, k.total, k.e)
		}
		if k.s.Positive() != k.positive {
			t.Errorf("%v.Positive(): %v", k.s, !k.positive)
		}
	}
}

// P6.1, Z2: Distinct, Total and Positive of all sets, held against the document's words.
func TestToldOfAll(t *testing.T) {
	for _, s := range sets() {
		var distinct Set
		total, positive := new(big.Int), true
		for _, x := range s {
			total.Add(total, big.NewInt(x.Weight))
			positive = positive && x.Weight >= 0
			if x.Weight > 0 {
				distinct = append(distinct, item(x.Row, 1))
			}
		}
		if d := s.Distinct(); !equal(d, distinct) || !d.Right() || !d.Positive() {
			t.Errorf("%v.Distinct(): %v, not %v", s, d, distinct)
		}
		want, e := total.Int64(), api.OK
		if !total.IsInt64() {
			want, e = 0, api.ErrOver
		}
		if n, f := s.Total(); n != want || f != e {
			t.Errorf("%v.Total(): %d, %d; not %d, %d", s, n, f, want, e)
		}
		if s.Positive() != positive {
			t.Errorf("%v.Positive(): %v", s, !positive)
		}
	}
}

// P6.1, Z2: Right, of sets, and of items that are none by a row, by a weight, or by their order.
func TestRight(t *testing.T) {
	for _, s := range append(sets(), nil, Set{}, list(item(a(), least), item(b(), most))) {
		if !s.Right() {
			t.Errorf("%v.Right(): false", s)
		}
	}
	for _, s := range []Set{
		list(item(a(), 0)), list(item(nil, 0)), list(item(a(), 1), item(b(), 0)), list(item(a(), 0), item(b(), 1)), list(item(a(), 1), item(b(), 0), item(c(), 1)),
		list(item(b(), 1), item(a(), 1)), list(item(a(), 1), item(c(), 1), item(b(), 1)), list(item(b(), 1), item(a(), 1), item(c(), 1)), list(item(a(), 1), item(nil, 1)),
		list(item(a(), 1), item(a(), 1)), list(item(a(), 1), item(a(), 2)), list(item(a(), 1), item(a(), -1)), list(item(a(), 1), item(b(), 1), item(b(), 2)), list(item(nil, 1), item(api.Row{}, 1)), list(item(a(), 1), item(b(), 1), item(a(), 1)),
	} {
		if s.Right() {
			t.Errorf("%v.Right(): true", s)
		}
	}
	all := rows()
	for i, x := range all {
		for j, y := range all {
			if s := list(item(x, 1), item(y, -1)); s.Right() != (i < j) {
				t.Errorf("%v.Right(): %v", s, i >= j)
			}
		}
	}
	for _, w := range wrongs() {
		l := list(item(a(), 1), item(w, 1), item(c(), 1))
		slices.SortFunc(l, func(x, y api.Item) int { return row.Compare(x.Row, y.Row) })
		if list(item(w, 1)).Right() || list(item(w, 0)).Right() || l.Right() {
			t.Errorf("Right with %v: true", w)
		}
	}
	for _, l := range lists() {
		s, e := exact(1, l...)
		if Set(l).Right() != (e == api.OK && equal(l, s)) {
			t.Errorf("%v.Right(): %v", l, Set(l).Right())
		}
	}
}

// P6.1, Z2: Same, of sets, and of any lists: item by item, in their order.
func TestSame(t *testing.T) {
	l := []Set{
		nil, list(item(nil, 0)), list(item(nil, 1)), list(item(a(), 0)), list(item(a(), 1)), list(item(a(), -1)), list(item(a(), 2)), list(item(a(), least)), list(item(a(), most)), list(item(of(long(1)), 1)), list(item(of(small(1), null()), 1)), list(item(of(text("1")), 1)),
		list(item(a(), 1), item(a(), 1)), list(item(a(), 1), item(b(), 1)), list(item(b(), 1), item(a(), 1)), list(item(b(), 1)), list(item(a(), 1), item(b(), 2)), list(item(a(), 2), item(b(), 1)), list(item(a(), 1), item(b(), 1), item(c(), 1)), list(item(a(), 1), item(b(), 1), item(c(), 0)), list(item(a(), 1), item(c(), 1)), list(item(c(), 1), item(b(), 1), item(a(), 1)),
	}
	for _, w := range wrongs() {
		l = append(l, list(item(w, 1)), list(item(a(), 1), item(w, 1)))
	}
	for i, x := range l {
		for j, y := range l {
			if Same(x, copied(y)) != (i == j) {
				t.Errorf("Same(%v, %v): %v", x, y, i != j)
			}
		}
	}
	if !Same(nil, Set{}) || !Same(Set{}, nil) || !Same(list(item(nil, 1)), list(item(api.Row{}, 1))) {
		t.Error("Same of lists without elements: false")
	}
	all := sets()
	for i, x := range all {
		if y := all[i*5%len(all)]; !Same(x, copied(x)) || Same(x, y) != equal(x, y) {
			t.Errorf("Same(%v, %v): %v", x, y, Same(x, y))
		}
	}
}

// P6.2: sums hang on no order of items, and on none of sets, nor on which of them are taken together first.
func TestNoOrder(t *testing.T) {
	for seed := range 60 {
		l := some(seed, 5, rows()[seed%20:seed%20+4], -2, -1, 0, 1, 2, most, least)
		want, e := Of(l...)
		for _, o := range orders(l) {
			if s, f := Of(o...); !equal(s, want) || f != e {
				t.Errorf("Of(%v): %v, %d; not %v, %d", o, s, f, want, e)
			}
		}
	}
	l := sets()
	for i := range l {
		x, y, z := l[i], l[(i*3+1)%len(l)], l[(i*5+2)%len(l)]
		want, e := Add(x, y, z)
		for _, o := range [][]Set{{x, z, y}, {y, x, z}, {y, z, x}, {z, x, y}, {z, y, x}} {
			if s, f := Add(o...); !equal(s, want) || f != e {
				t.Errorf("Add(%v): %v, %d; not %v, %d", o, s, f, want, e)
			}
		}
		if xy, f := Add(x, y); f == api.OK {
			if s, f := Add(xy, z); !equal(s, want) || f != e {
				t.Errorf("Add of %v and %v, and %v: %v, %d; not %v, %d", x, y, z, s, f, want, e)
			}
		}
		if yz, f := Add(y, z); f == api.OK {
			if s, f := Add(x, yz); !equal(s, want) || f != e {
				t.Errorf("Add of %v, and of %v and %v: %v, %d; not %v, %d", x, y, z, s, f, want, e)
			}
		}
	}
}

// P6.2: a set and its Neg are nothing, nothing leaves a set as it is, and the Neg of its Neg is it.
func TestGroup(t *testing.T) {
	for _, s := range append(sets(), list(item(a(), most), item(b(), -most))) {
		if d, e := Add(s, nil); !equal(d, s) || e != api.OK {
			t.Errorf("Add(%v, nil): %v, %d", s, d, e)
		}
		n, e := s.Neg()
		if low := slices.ContainsFunc(s, func(x api.Item) bool { return x.Weight == least }); low != (e == api.ErrOver) {
			t.Errorf("%v.Neg(): %v, %d", s, n, e)
		}
		if e != api.OK {
			continue
		}
		if d, e := Add(s, n); len(d) != 0 || e != api.OK {
			t.Errorf("Add(%v, %v): %v, %d", s, n, d, e)
		}
		if d, e := Add(n, s); len(d) != 0 || e != api.OK {
			t.Errorf("Add(%v, %v): %v, %d", n, s, d, e)
		}
		if d, e := n.Neg(); !equal(d, s) || e != api.OK || !n.Right() {
			t.Errorf("%v.Neg().Neg(): %v, %d", s, d, e)
		}
	}
}

// P6.1: what is told is one's own: what is done to it, and to what it was made of, changes no other one.
func TestOwn(t *testing.T) {
	first := func(s Set, _ api.Errno) Set { return s }
	for name, tell := range map[string]func(s Set) Set{
		"Of":           func(s Set) Set { return first(Of(s...)) },
		"Of one":       func(s Set) Set { return first(Of(s[0])) },
		"Of it twice":  func(s Set) Set { return first(Of(append(s[:2:2], s...)...)) },
		"Add":          func(s Set) Set { return first(Add(s)) },
		"Add nothing":  func(s Set) Set { return first(Add(nil, s, nil)) },
		"Add parts":    func(s Set) Set { return first(Add(s[:1], s[1:])) },
		"Neg":          func(s Set) Set { return first(s.Neg()) },
		"Distinct":     func(s Set) Set { return s.Distinct() },
		"Add of rows'": func(s Set) Set { return first(Add(list(item(s[0].Row, 1), item(s[1].Row[:1], 1), item(s[1].Row, 1)))) },
	} {
		made := func() Set {
			return list(item(of(small(1), text("a")), 1), item(of(small(2), null()), 2), item(of(small(3)), 3))
		}
		s := made()
		x, y := tell(s), tell(s)
		before := copied(y)
		for i := range x {
			clear(x[i].Row)
			_ = append(x[i].Row, text("more"))
			if i > 0 && !equal(x[i:i+1], list(item(make(api.Row, len(before[i].Row)), before[i].Weight))) {
				t.Errorf("%s: its rows share memory: %v", name, x)
			}
		}
		_ = append(x, item(a(), 9))
		clear(x)
		if !equal(s, made()) {
			t.Errorf("%s: what was done to it came to what it was made of: %v", name, s)
		}
		for i := range s {
			clear(s[i].Row)
		}
		clear(s)
		if !equal(y, before) {
			t.Errorf("%s: it shares memory: %v, not %v", name, y, before)
		}
	}
	// Two rows of an answer that were one list, and its beginning, are none any more.
	r := of(small(1), small(2))
	s, _ := Of(item(r, 1), item(r[:1], 1))
	s[0].Row[0] = text("changed")
	if !slices.Equal(s[1].Row, of(small(1), small(2))) || !slices.Equal(r, of(small(1), small(2))) {
		t.Errorf("rows of one answer share memory: %v, %v", s, r)
	}
}

// Rule 4: no call writes into what it is handed, nor behind its length, nor reads what is there.
func TestHandedIn(t *testing.T) {
	made := func() Set {
		l := list(item(c(), 1), item(a(), 2), item(of(small(9), small(8), truth(2))[:2], 3), item(b(), 4), item(a(), 5), item(of(truth(2)), most))
		return l[:5]
	}
	whole := made()
	sum, _ := Of(list(item(a(), 7), item(b(), 4), item(of(small(9), small(8)), 3), item(c(), 1))...)
	for name, call := range map[string]func(s Set) bool{
		"Of": func(s Set) bool { d, e := Of(s...); return equal(d, sum) && e == api.OK },
		"Add": func(s Set) bool {
			l := []Set{s, s[:0], nil}
			d, e := Add(l[:2]...)
			return equal(d, sum) && e == api.OK
		},
		"Neg":      func(s Set) bool { d, e := s.Neg(); return len(d) == 4 && e == api.OK },
		"Get":      func(s Set) bool { s.Get(s[1].Row); return s[:1].Get(of(truth(2))) == 0 },
		"Distinct": func(s Set) bool { return len(s.Distinct()) == 5 },
		"Total":    func(s Set) bool { n, e := s.Total(); return n == 15 && e == api.OK },
		"Right":    func(s Set) bool { return !s.Right() && s[1:3].Right() },
		"Positive": func(s Set) bool { return s.Positive() },
		"Same":     func(s Set) bool { return Same(s, made()) },
	} {
		if !call(whole) {
			t.Errorf("%s: another answer for what lies behind the length", name)
		}
		if now, want := whole[:6], made()[:6]; !equal(now, want) || !slices.Equal(now[2].Row[:3], want[2].Row[:3]) {
			t.Errorf("%s: what was handed in is %v now", name, now)
		}
	}
}

// P1, P2: every call ends, at lists that are no sets too, and answers the same when it is asked again.
func TestAnyItems(t *testing.T) {
	asked := append(append(rows(), wrongs()...), api.Row{})
	for _, l := range lists() {
		s := Set(l)
		for _, r := range asked {
			if s.Get(r) != s.Get(r) {
				t.Errorf("%v.Get(%v): two answers", s, r)
			}
		}
		n, e := s.Total()
		if m, f := s.Total(); n != m || e != f || e != api.OK && n != 0 {
			t.Errorf("%v.Total(): %d, %d, and %d, %d", s, n, e, m, f)
		}
		if !equal(s.Distinct(), s.Distinct()) || s.Positive() != s.Positive() || s.Right() != s.Right() || !Same(s, s) {
			t.Errorf("of %v: two answers", s)
		}
	}
}
