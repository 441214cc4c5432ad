package index

import (
	"math"
	"math/big"
	"slices"
	"strings"
	"testing"

	"instar/api"
	"instar/row"
	"instar/zset"
)

// The ends of 64 bits.
const (
	least = math.MinInt64
	most  = math.MaxInt64
)

// Short forms of values, rows and items.
func null() api.Value                   { return api.Value{} }
func truth(n int64) api.Value           { return api.Value{Kind: api.Bool, N: n} }
func small(n int64) api.Value           { return api.Value{Kind: api.Int32, N: n} }
func long(n int64) api.Value            { return api.Value{Kind: api.Int64, N: n} }
func text(s string) api.Value           { return api.Value{Kind: api.Text, S: s} }
func of(l ...api.Value) api.Row         { return l }
func item(r api.Row, n int64) api.Item  { return api.Item{Row: r, Weight: n} }
func list(l ...api.Item) zset.Set       { return l }
func repeat(v api.Value, n int) api.Row { return slices.Repeat(of(v), n) }
func pair(a, b int64) api.Row           { return of(small(a), small(b)) }

// wrongs are rows that are not right, by a value, at either end of them, or by how many they have.
func wrongs() []api.Row {
	l := []api.Row{repeat(null(), 25), repeat(small(1), 25), repeat(null(), 1000)}
	for _, v := range []api.Value{{N: 1}, {S: "a"}, truth(2), small(1 << 31), {Kind: api.Int64, S: "a"}, text(strings.Repeat("x", 201)), {Kind: 5}, {Kind: -1}} {
		l = append(l, of(v), of(small(1), v), of(v, small(1)), append(repeat(null(), 23), v))
	}
	return l
}

// rows are right ones, of which many have a key in common, at some places: with no value, with a few, and with 23 and 24.
func rows() []api.Row {
	l := []api.Row{nil, of(text("a\x00")), of(text("a\x00"), text("b")), of(text("a"), text("\x00b")), of(long(1), small(1)), of(small(1), long(1)), repeat(null(), 23), repeat(null(), 24), repeat(small(1), 24)}
	few := []api.Value{null(), truth(1), small(-1), small(1), text(""), text("a")}
	for _, a := range few {
		l = append(l, of(a))
		for _, b := range few {
			l = append(l, of(a, b), of(a, b, small(1)), of(small(1), a, b))
		}
	}
	return l
}

// places are lists of these, the first ones without any, of one and of more, some twice, of 24, and with such as no row has.
func places() [][]int {
	all := make([]int, 24)
	for i := range all {
		all[i] = 23 - i
	}
	return [][]int{
		nil, {}, {0}, {1}, {2}, {0, 1}, {1, 0}, {2, 0}, {0, 0}, {1, 1, 1}, {0, 1, 0}, {2, 1, 0}, {0, 1, 2, 0, 1, 2, 0}, all, make([]int, 24), slices.Repeat([]int{1, 0}, 12),
		{22}, {23}, {24}, {1000}, {most}, {-1}, {least}, {0, -1}, {-1, 0}, {0, 24}, append(slices.Repeat([]int{0}, 23), -1), slices.Repeat([]int{-1}, 24),
	}
}

// copied is items at other places in memory.
func copied(l []api.Item) zset.Set {
	var k zset.Set
	for _, x := range l {
		k = append(k, item(slices.Clone(x.Row), x.Weight))
	}
	return k
}

// equal tells whether two lists have the same items, one by one.
func equal(a, b []api.Item) bool {
	return slices.EqualFunc(a, b, func(x, y api.Item) bool { return x.Weight == y.Weight && slices.Equal(x.Row, y.Row) })
}

// some are n items, each a row of l with a weight, that hang on seed.
func some(seed, n int, l []api.Row, weights ...int64) zset.Set {
	var items zset.Set
	u := uint64(seed)*2 + 1
	for range n {
		u = u*6364136223846793005 + 1442695040888963407
		items = append(items, item(l[int(u>>33)%len(l)], weights[int(u>>48)%len(weights)]))
	}
	return items
}

// exact is the sum of right rows' items by the document's words, in numbers without bounds.
func exact(l ...api.Item) (zset.Set, api.Errno) {
	total := map[string]*big.Int{}
	var there []api.Row
	for _, x := range l {
		k := row.Key(x.Row)
		if total[k] == nil {
			total[k] = new(big.Int)
			there = append(there, x.Row)
		}
		total[k].Add(total[k], big.NewInt(x.Weight))
	}
	slices.SortFunc(there, row.Compare)
	var s zset.Set
	for _, r := range there {
		n := total[row.Key(r)]
		if !n.IsInt64() {
			return nil, api.ErrOver
		}
		if n.Sign() != 0 {
			s = append(s, item(r, n.Int64()))
		}
	}
	return s, api.OK
}

// model is an index by the document's words: places, and a set, whose keys are made anew whenever they are asked for.
type model struct {
	at  []int
	set zset.Set
}

// has tells whether a row has all places.
func (m model) has(r api.Row) bool {
	return !slices.ContainsFunc(m.at, func(at int) bool { return at < 0 || at >= len(r) })
}

// key is a row's, that has all places.
func (m model) key(r api.Row) api.Row {
	key := api.Row{}
	for _, at := range m.at {
		key = append(key, r[at])
	}
	return key
}

// put adds a set.
func (m *model) put(s zset.Set) api.Errno {
	if slices.ContainsFunc(s, func(x api.Item) bool { return !m.has(x.Row) || !row.Right(x.Row) }) {
		return api.ErrRow
	}
	sum, e := exact(slices.Concat(m.set, s)...)
	if e == api.OK {
		m.set = sum
	}
	return e
}

// where is the items whose keys are asked for.
func (m model) where(asked func(key api.Row) bool) zset.Set {
	return slices.DeleteFunc(copied(m.set), func(x api.Item) bool { return !asked(m.key(x.Row)) })
}

// find is the items with a key.
func (m model) find(key api.Row) zset.Set {
	return m.where(func(k api.Row) bool { return slices.Equal(k, key) })
}

// between is the items with keys from one on, before another one.
func (m model) between(from, to api.Row) zset.Set {
	return m.where(func(k api.Row) bool { return row.Compare(k, from) >= 0 && row.Compare(k, to) < 0 })
}

// keys are those that its rows have, each once.
func (m model) keys() []api.Row {
	var l []api.Row
	for _, x := range m.set {
		l = append(l, m.key(x.Row))
	}
	slices.SortFunc(l, row.Compare)
	return slices.CompactFunc(l, func(a, b api.Row) bool { return slices.Equal(a, b) })
}

// like tells in which call an index differs from a model, by all its keys, by all asked for beside them, and by what is between any two of some.
func like(t *testing.T, x *Index, m model, asked ...api.Row) {
	t.Helper()
	keys := m.keys()
	if s := x.All(); !equal(s, m.set) || !s.Right() {
		t.Errorf("places %v: All: %v, not %v", m.at, s, m.set)
	}
	if x.Keys() != len(keys) {
		t.Errorf("places %v: Keys: %d of %v", m.at, x.Keys(), keys)
	}
	asked = append(keys, asked...)
	for i, key := range asked {
		if s := x.Find(key); !equal(s, m.find(key)) {
			t.Errorf("places %v: Find(%v): %v, not %v", m.at, key, s, m.find(key))
		}
		for _, to := range []api.Row{key, asked[(i+1)%len(asked)], asked[(i*7+2)%len(asked)], asked[(i*11+5)%len(asked)]} {
			if s := x.Range(key, to); !equal(s, m.between(key, to)) || !s.Right() {
				t.Errorf("places %v: Range(%v, %v): %v, not %v", m.at, key, to, s, m.between(key, to))
			}
		}
	}
}

// made is an index that a set was put into.
func made(t *testing.T, s zset.Set, at ...int) *Index {
	t.Helper()
	x := New(at...)
	if e := x.Put(s); e != api.OK {
		t.Fatalf("places %v: Put(%v): %d", at, s, e)
	}
	return x
}

// P7.1, X1: a new index is empty, whatever its places, 24 of them, 25 and more too.
func TestNew(t *testing.T) {
	for _, at := range append(places(), make([]int, 25), make([]int, 30), slices.Repeat([]int{-1}, 25), make([]int, 5000)) {
		x := New(at...)
		if x == nil {
			t.Fatalf("New(%v): nil", at)
		}
		if len(x.All()) != 0 || x.Keys() != 0 || len(x.Find(nil)) != 0 || len(x.Find(repeat(null(), len(at)))) != 0 || len(x.Range(nil, repeat(text("b"), 24))) != 0 {
			t.Errorf("New(%v): %v, %d keys", at, x.All(), x.Keys())
		}
		for _, s := range []zset.Set{nil, {}} {
			if e := x.Put(s); e != api.OK || len(x.All()) != 0 || x.Keys() != 0 {
				t.Errorf("places %v: Put of no row: %d, %v, %d keys", at, e, x.All(), x.Keys())
			}
		}
	}
	if x := New(); x == nil || x.Keys() != 0 {
		t.Error("New without places")
	}
	// Two new ones are two.
	x, y := New(0), New(0)
	if e := x.Put(list(item(pair(1, 1), 1))); e != api.OK || x.Keys() != 1 || y.Keys() != 0 || len(y.All()) != 0 {
		t.Errorf("two new indexes: %d, %v, %v", e, x.All(), y.All())
	}
}

// P7.1, X1 and X2: without places, all rows have the one key that has no value.
func TestNoPlaces(t *testing.T) {
	s := list(item(nil, 3), item(of(null()), -1), item(pair(1, 2), 2), item(repeat(null(), 24), 5))
	all, _ := zset.Of(s...)
	// The zero value too is one without places.
	for _, x := range []*Index{New(), New([]int{}...), {}} {
		if e := x.Put(s); e != api.OK {
			t.Fatalf("Put: %d", e)
		}
		if x.Keys() != 1 || !equal(x.All(), all) || !equal(x.Find(nil), all) || !equal(x.Find(api.Row{}), all) {
			t.Errorf("%d keys, %v, %v", x.Keys(), x.All(), x.Find(nil))
		}
		for _, key := range append(wrongs(), of(null()), pair(1, 2), repeat(null(), 24)) {
			if s := x.Find(key); len(s) != 0 {
				t.Errorf("Find(%v): %v", key, s)
			}
			if s := x.Range(nil, key); !equal(s, all) {
				t.Errorf("Range(nil, %v): %v", key, s)
			}
			if s := x.Range(key, repeat(text("b"), 24)); len(s) != 0 {
				t.Errorf("Range(%v, ..): %v", key, s)
			}
		}
		if len(x.Range(nil, nil)) != 0 {
			t.Errorf("Range(nil, nil): %v", x.Range(nil, nil))
		}
		for _, w := range wrongs() {
			if e := x.Put(list(item(w, 1))); e != api.ErrRow || !equal(x.All(), all) {
				t.Errorf("Put(%v): %d, %v", w, e, x.All())
			}
		}
		if e := x.Put(list(item(nil, -3), item(of(null()), 1), item(pair(1, 2), -2), item(repeat(null(), 24), -5))); e != api.OK || x.Keys() != 0 || len(x.Find(nil)) != 0 {
			t.Errorf("Put of 0 less it: %d, %d keys", e, x.Keys())
		}
	}
}

// P7.1, X1: ErrRow wherever a row has not all places, or is not right, whatever its weight, ahead of ErrOver; and the index has what it had.
func TestErrRow(t *testing.T) {
	for _, k := range []struct {
		at []int
		r  api.Row
	}{
		{[]int{0}, nil}, {[]int{1}, of(small(1))}, {[]int{0, 1}, of(small(1))}, {[]int{1, 0}, of(small(1))}, {[]int{0, 2, 0}, pair(1, 2)}, {[]int{23}, repeat(null(), 23)}, {[]int{1, 1}, of(small(1))},
		{[]int{-1}, pair(1, 1)}, {[]int{0, -1}, pair(1, 1)}, {[]int{-1, 0}, pair(1, 1)}, {[]int{least}, pair(1, 1)}, {[]int{2}, pair(1, 1)}, {[]int{24}, repeat(null(), 24)}, {[]int{24}, repeat(null(), 25)}, {[]int{most}, repeat(null(), 24)},
	} {
		if e := New(k.at...).Put(list(item(k.r, 1))); e != api.ErrRow {
			t.Errorf("places %v: Put(%v): %d", k.at, k.r, e)
		}
	}
	had := list(item(pair(1, 1), most), item(pair(1, 2), least), item(pair(2, 1), 1))
	over, under, right := item(pair(1, 1), 1), item(pair(1, 2), -1), item(pair(5, 5), 1)
	short := []api.Row{nil, of(small(1)), of(null())}
	for _, at := range [][]int{{1}, {0, 1}, {1, 0, 1}} {
		x := made(t, had, at...)
		for _, w := range append(wrongs(), short...) {
			for _, s := range []zset.Set{
				{item(w, 1)}, {item(w, 0)}, {item(w, -1)}, {item(w, most), item(w, most)}, {item(w, 1), item(w, -1)}, {right, item(w, 1)}, {item(w, 1), right}, {right, item(w, 0), right},
				{over, item(w, 1)}, {item(w, 1), over}, {over, under, item(w, 0)}, {under, item(w, 1), over, right},
			} {
				// More than once, since maps are gone through in no order.
				for range 3 {
					if e := x.Put(s); e != api.ErrRow {
						t.Errorf("places %v: Put(%v): %d", at, s, e)
					}
				}
			}
		}
		like(t, x, model{at, had}, right.Row, pair(1, 1))
	}
}

// P7.1, X1: ErrOver where a weight is no number of 64 bits behind the sum, whichever key's row it is; the index has what it had, of the other keys too.
func TestErrOver(t *testing.T) {
	had := list(item(pair(1, 1), most), item(pair(1, 2), least), item(pair(2, 1), 1), item(pair(3, 1), -most))
	for _, s := range []zset.Set{
		{item(pair(1, 1), 1)}, {item(pair(1, 2), -1)}, {item(pair(2, 1), most)}, {item(pair(3, 1), -2)}, {item(pair(1, 1), most)}, {item(pair(1, 2), least)},
		{item(pair(7, 7), most), item(pair(7, 7), 1)}, {item(pair(7, 7), least), item(pair(7, 7), -1)},
		// 2^64 more, which is as much where sums go round.
		{item(pair(2, 1), most), item(pair(2, 1), most), item(pair(2, 1), 2)},
		// With rows of other keys, that alone would be put, and one that would be gone.
		{item(pair(4, 4), 1), item(pair(5, 1), 1), item(pair(1, 1), 1), item(pair(6, 2), 1), item(pair(2, 1), -1)},
		{item(pair(1, 2), -1), item(pair(2, 1), -1), item(pair(3, 1), most), item(pair(9, 9), 1)},
		{item(pair(2, 1), 5), item(pair(2, 9), 5), item(pair(2, 8), 5), item(pair(1, 1), 1)},
	} {
		for _, at := range [][]int{nil, {0}, {1}, {0, 1}, {1, 0}, {0, 0}} {
			x := made(t, had, at...)
			for range 5 {
				if e := x.Put(s); e != api.ErrOver {
					t.Errorf("places %v: Put(%v): %d", at, s, e)
				}
				like(t, x, model{at, had}, pair(1, 1), of(small(4)), of(small(9)))
			}
		}
	}
	// At the ends, and outside on the way only.
	for _, k := range []struct{ s, want zset.Set }{
		{list(item(pair(1, 1), -1)), list(item(pair(1, 1), most-1), item(pair(1, 2), least))},
		{list(item(pair(1, 1), 1), item(pair(1, 1), -1)), list(item(pair(1, 1), most), item(pair(1, 2), least))},
		{list(item(pair(1, 1), most), item(pair(1, 1), -most)), list(item(pair(1, 1), most), item(pair(1, 2), least))},
		{list(item(pair(1, 1), least)), list(item(pair(1, 1), -1), item(pair(1, 2), least))},
		{list(item(pair(1, 2), most), item(pair(1, 2), 1)), list(item(pair(1, 1), most))},
		{list(item(pair(1, 2), most), item(pair(1, 2), most)), list(item(pair(1, 1), most), item(pair(1, 2), most-1))},
		{list(item(pair(1, 3), most), item(pair(2, 1), least)), list(item(pair(1, 1), most), item(pair(1, 2), least), item(pair(1, 3), most), item(pair(2, 1), least))},
		// Each row's weights are taken together, not a key's.
		{list(item(pair(1, 3), most), item(pair(1, 4), most)), list(item(pair(1, 1), most), item(pair(1, 2), least), item(pair(1, 3), most), item(pair(1, 4), most))},
	} {
		for _, at := range [][]int{nil, {0}, {1}, {0, 1}} {
			x := made(t, had[:2], at...)
			if e := x.Put(k.s); e != api.OK {
				t.Errorf("places %v: Put(%v): %d", at, k.s, e)
			}
			like(t, x, model{at, k.want}, pair(1, 1), of(small(1)))
		}
	}
}

// P7.1, X1 and X2: rows whose weights come to 0 are gone, and a key with the last of its rows; it may come back.
func TestGone(t *testing.T) {
	x := made(t, list(item(pair(1, 1), 2), item(pair(1, 2), -3), item(pair(2, 1), 1)), 0)
	for _, k := range []struct {
		s, one zset.Set
		keys   int
	}{
		{list(item(pair(1, 1), -2)), list(item(pair(1, 2), -3)), 2},
		{list(item(pair(1, 2), 1)), list(item(pair(1, 2), -2)), 2},
		{list(item(pair(1, 2), 2)), nil, 1},
		{list(item(pair(1, 2), 0), item(pair(8, 8), 0)), nil, 1},
		{list(item(pair(1, 3), 4), item(pair(1, 3), -4), item(pair(9, 1), 1), item(pair(9, 1), -1)), nil, 1},
		{list(item(pair(1, 3), 4), item(pair(2, 1), -1)), list(item(pair(1, 3), 4)), 1},
		{list(item(pair(1, 3), -5)), list(item(pair(1, 3), -1)), 1},
		{list(item(pair(1, 3), 1)), nil, 0},
		{list(item(pair(1, 1), 2), item(pair(3, 1), 1), item(pair(1, 0), 1)), list(item(pair(1, 0), 1), item(pair(1, 1), 2)), 2},
	} {
		if e := x.Put(k.s); e != api.OK || x.Keys() != k.keys || !equal(x.Find(of(small(1))), k.one) {
			t.Errorf("Put(%v): %d, %d keys, %v; not %d keys, %v", k.s, e, x.Keys(), x.Find(of(small(1))), k.keys, k.one)
		}
	}
	if !equal(x.All(), list(item(pair(1, 0), 1), item(pair(1, 1), 2), item(pair(3, 1), 1))) {
		t.Errorf("All: %v", x.All())
	}
}

// P7.1, X2: Find, of just this key: not of one that begins with it or that it begins with, nor of the places in another order, nor of a value of another kind.
func TestFind(t *testing.T) {
	s := list(item(of(small(1), small(2), text("x")), 1), item(of(small(1), small(2), text("w")), 2), item(of(small(2), small(1)), 3), item(of(small(1), long(2)), 4), item(of(small(1), null()), 5), item(of(small(1), truth(1)), 6))
	x := made(t, s, 1, 0)
	for _, k := range []struct {
		key  api.Row
		want zset.Set
	}{
		{pair(2, 1), list(item(of(small(1), small(2), text("w")), 2), item(of(small(1), small(2), text("x")), 1))},
		{pair(1, 2), list(item(pair(2, 1), 3))}, {of(long(2), small(1)), list(item(of(small(1), long(2)), 4))}, {of(null(), small(1)), list(item(of(small(1), null()), 5))}, {of(truth(1), small(1)), list(item(of(small(1), truth(1)), 6))},
		{nil, nil}, {of(small(2)), nil}, {of(small(1)), nil}, {of(small(2), small(1), null()), nil}, {of(small(1), small(2), text("x")), nil}, {of(small(1), null()), nil}, {pair(1, 1), nil}, {of(small(2), long(1)), nil}, {of(null(), null()), nil},
		{of(text("\x02"), small(1)), nil}, {append(pair(2, 1), repeat(null(), 22)...), nil}, {append(pair(2, 1), repeat(null(), 23)...), nil},
	} {
		if s := x.Find(k.key); !equal(s, k.want) {
			t.Errorf("Find(%v): %v, not %v", k.key, s, k.want)
		}
	}
	for _, key := range wrongs() {
		if s := x.Find(key); len(s) != 0 {
			t.Errorf("Find(%v): %v", key, s)
		}
	}
	// Texts whose bytes, put one behind the other, are the same.
	y := made(t, list(item(of(text("ab"), text("c")), 1), item(of(text("a"), text("bc")), 2), item(of(text("a\x00"), text("")), 3), item(of(text("a"), text("\x00")), 4)), 0, 1)
	if y.Keys() != 4 || !equal(y.Find(of(text("a"), text("bc"))), list(item(of(text("a"), text("bc")), 2))) || !equal(y.Find(of(text("a\x00"), text(""))), list(item(of(text("a\x00"), text("")), 3))) {
		t.Errorf("%d keys, %v", y.Keys(), y.All())
	}
}

// P7.1, X2: the same place twice stands twice in a key.
func TestTwice(t *testing.T) {
	x := made(t, list(item(pair(1, 2), 1), item(pair(1, 3), 1), item(pair(2, 1), 1)), 0, 1, 0)
	if x.Keys() != 3 || len(x.Find(of(small(1), small(2), small(1)))) != 1 || len(x.Find(pair(1, 2))) != 0 || len(x.Find(of(small(1), small(2), small(2)))) != 0 {
		t.Errorf("%d keys, %v", x.Keys(), x.All())
	}
	y := made(t, list(item(pair(1, 2), 1), item(pair(1, 3), 1), item(pair(2, 1), 1)), 0, 0)
	if y.Keys() != 2 || len(y.Find(pair(1, 1))) != 2 || len(y.Find(pair(1, 2))) != 0 || len(y.Find(of(small(1)))) != 0 {
		t.Errorf("%d keys, %v", y.Keys(), y.All())
	}
}

// P7.1, X1 and X2: with 24 places.
func TestManyPlaces(t *testing.T) {
	at := places()[13]
	if len(at) != 24 || at[0] != 23 || at[23] != 0 {
		t.Fatalf("places: %v", at)
	}
	r, q := repeat(small(1), 24), repeat(small(1), 24)
	r[0], q[23] = small(2), small(3)
	x := made(t, list(item(r, 1), item(q, 2)), at...)
	like(t, x, model{at, list(item(q, 2), item(r, 1))}, r, q, repeat(small(1), 24))
	if x.Keys() != 2 || !equal(x.Find(append(repeat(small(1), 23), small(2))), list(item(r, 1))) || len(x.Find(r)) != 0 {
		t.Errorf("%d keys, %v", x.Keys(), x.All())
	}
	if e := x.Put(list(item(r[:23], 1))); e != api.ErrRow || x.Keys() != 2 {
		t.Errorf("Put of a row of 23 values: %d", e)
	}
	zero := made(t, list(item(of(small(1)), 1), item(pair(1, 2), 1), item(pair(2, 2), 1)), make([]int, 24)...)
	if zero.Keys() != 2 || len(zero.Find(repeat(small(1), 24))) != 2 || len(zero.Find(repeat(small(1), 23))) != 0 {
		t.Errorf("%d keys, %v", zero.Keys(), zero.All())
	}
}

// P7.1, X2: Range, with ends before, at and behind keys, and with ends that are shorter, longer, or not right; its items are in order as rows, not as keys.
func TestRange(t *testing.T) {
	s := list(item(pair(1, 5), 1), item(pair(2, 3), 2), item(pair(3, 5), -3), item(pair(4, 1), 4), item(pair(5, 3), 5))
	x := made(t, s, 1)
	for _, k := range []struct {
		from, to api.Row
		want     zset.Set
	}{
		{of(small(1)), of(small(6)), s}, {of(small(0)), of(small(6)), s}, {nil, of(text("")), s}, {of(null()), of(long(0)), s}, {of(small(math.MinInt32)), of(small(math.MaxInt32)), s},
		{of(small(1)), of(small(5)), list(s[1], s[3], s[4])}, {of(small(2)), of(small(5)), list(s[1], s[4])}, {of(small(3)), of(small(5)), list(s[1], s[4])}, {of(small(3)), of(small(4)), list(s[1], s[4])},
		{of(small(3)), of(small(6)), list(s[0], s[1], s[2], s[4])}, {of(small(4)), of(small(6)), list(s[0], s[2])}, {of(small(5)), of(small(6)), list(s[0], s[2])}, {of(small(1)), of(small(3)), list(s[3])}, {of(small(0)), of(small(2)), list(s[3])},
		{of(small(1)), of(small(1)), nil}, {of(small(3)), of(small(3)), nil}, {of(small(4)), of(small(5)), nil}, {of(small(2)), of(small(3)), nil}, {of(small(-9)), of(small(1)), nil}, {of(small(6)), of(small(9)), nil}, {nil, nil, nil}, {nil, of(null()), nil},
		{of(small(5)), of(small(3)), nil}, {of(small(6)), of(small(0)), nil}, {of(text("")), nil, nil}, {of(long(0)), of(text("z")), nil}, {nil, of(truth(1)), nil},
		// A shorter row is before a longer one that begins with it.
		{pair(1, 0), of(small(6)), list(s[0], s[1], s[2], s[4])}, {of(small(1)), of(small(1), null()), list(s[3])}, {of(small(3), null()), of(small(5), null()), list(s[0], s[2])}, {of(small(1)), of(small(3), null()), list(s[1], s[3], s[4])},
		// Rows that are not right are in the same order.
		{of(api.Value{Kind: -1}), of(api.Value{Kind: 5}), s}, {of(api.Value{N: 1}), of(small(1 << 40)), s}, {of(truth(7)), of(small(3)), list(s[3])}, {of(api.Value{Kind: 5}), of(api.Value{Kind: 6}), nil}, {of(api.Value{Kind: api.Int32, N: 3, S: "a"}), of(small(9)), list(s[0], s[2])},
		{append(of(small(3)), repeat(null(), 40)...), append(of(small(5)), repeat(null(), 40)...), list(s[0], s[2])},
	} {
		if s := x.Range(k.from, k.to); !equal(s, k.want) {
			t.Errorf("Range(%v, %v): %v, not %v", k.from, k.to, s, k.want)
		}
	}
	// By two places, the second column first.
	y := made(t, s, 1, 0)
	for _, k := range []struct {
		from, to api.Row
		want     zset.Set
	}{
		{pair(3, 2), pair(5, 1), list(s[1], s[4])}, {pair(3, 3), pair(5, 3), list(s[0], s[4])}, {pair(3, 2), pair(5, 2), list(s[0], s[1], s[4])}, {of(small(3)), of(small(5)), list(s[1], s[4])}, {of(small(5)), nil, nil}, {nil, of(small(5)), list(s[1], s[3], s[4])},
		{pair(5, 1), pair(5, 3), list(s[0])}, {pair(5, 1), append(pair(5, 3), null()), list(s[0], s[2])}, {append(pair(5, 1), null()), of(small(6)), list(s[2])},
	} {
		if s := y.Range(k.from, k.to); !equal(s, k.want) {
			t.Errorf("Range(%v, %v): %v, not %v", k.from, k.to, s, k.want)
		}
	}
}

// P7.1, X2: All is in order as rows, whichever keys they have and in whichever order they came.
func TestAll(t *testing.T) {
	var s zset.Set
	for i := range int64(50) {
		s = append(s, item(pair(i, i*7%10), i-25))
	}
	want, _ := zset.Of(s...)
	for _, at := range [][]int{nil, {0}, {1}, {1, 0}} {
		x := New(at...)
		for i := range s {
			if e := x.Put(list(s[i*21%50])); e != api.OK {
				t.Fatalf("Put: %d", e)
			}
		}
		if !equal(x.All(), want) || !equal(made(t, s, at...).All(), want) {
			t.Errorf("places %v: %v, not %v", at, x.All(), want)
		}
	}
}

// P7.1: what is told, and which error, held against the document's words, over many puts into indexes with all sorts of places.
func TestExact(t *testing.T) {
	few := rows()
	short := []api.Row{nil, of(small(1)), of(text("a")), pair(1, 1), of(small(1), small(1), small(1))}
	asked := append(append(wrongs()[:8], short...), of(null()), of(text("")), of(text("b")), of(null(), null()), repeat(null(), 24), repeat(small(1), 24), repeat(small(1), 25))
	for _, at := range places() {
		x, m := New(at...), model{at: at}
		fit := slices.DeleteFunc(slices.Clone(few), func(r api.Row) bool { return !m.has(r) })
		for seed := range 40 {
			s := some(seed, seed%7, few, -1, 0, 1, 2)
			switch {
			case seed%11 == 10:
				s = append(s, item(wrongs()[seed%len(wrongs())], 1))
			case seed%5 == 3 && len(fit) > 0:
				s = some(seed, 4, fit[:min(len(fit), 3)], most, least, 1, -1)
			case seed%7 == 5:
				// 0 less all that is there, or that and a row more.
				s, _ = m.set.Neg()
				s = append(s, some(seed, seed%2, few, 1)...)
			case len(fit) > 0 && seed%4 > 0:
				s = some(seed, 3+seed%9, fit, -2, -1, 0, 1, 3)
			}
			if e, want := x.Put(s), m.put(s); e != want {
				t.Errorf("places %v: Put(%v): %d, not %d", at, s, e, want)
			}
			if seed%3 == 0 {
				like(t, x, m, asked...)
			}
		}
		like(t, x, m, asked...)
		like(t, x.Clone(), m, asked...)
	}
}

// P7.1, X2: a clone has as much, with the same places; what is put into either is not in the other one, nor in another clone.
func TestClone(t *testing.T) {
	had := list(item(pair(1, 1), 2), item(pair(1, 2), -3), item(pair(2, 1), most))
	for _, at := range places()[:13] {
		m := model{at: at}
		if !m.has(pair(1, 1)) {
			continue
		}
		m.put(had)
		x := made(t, had, at...)
		y, z := x.Clone(), x.Clone()
		if x == y || y == z || y == nil {
			t.Fatalf("places %v: clones are one", at)
		}
		like(t, y, m, pair(1, 1), of(small(1)))
		more, less := list(item(pair(1, 1), -2), item(pair(1, 2), 1), item(pair(7, 7), 7)), list(item(pair(1, 1), 1), item(pair(2, 1), -most), item(pair(1, 3), 1))
		n, o := m, m
		if e := y.Put(more); e != n.put(more) || e != api.OK {
			t.Errorf("places %v: Put into a clone: %d", at, e)
		}
		like(t, x, m, pair(7, 7), of(small(7)))
		like(t, y, n, pair(7, 7), of(small(7)))
		if e := x.Put(less); e != o.put(less) || e != api.OK {
			t.Errorf("places %v: Put behind Clone: %d", at, e)
		}
		like(t, x, o, pair(7, 7), of(small(7)))
		like(t, y, n, pair(7, 7), of(small(7)))
		like(t, z, m, pair(7, 7), of(small(7)))
		if e := z.Put(list(item(pair(2, 1), 1))); e != api.ErrOver {
			t.Errorf("places %v: Put into a clone: %d, not ErrOver", at, e)
		}
		if e := z.Put(list(item(nil, 1))); (e == api.OK) != (len(at) == 0) || e != api.OK && e != api.ErrRow {
			t.Errorf("places %v: Put of a row without values into a clone: %d", at, e)
		}
		like(t, x.Clone().Clone(), o, pair(7, 7))
	}
	for _, at := range places() {
		y := New(at...).Clone()
		if y == nil || y.Keys() != 0 || len(y.All()) != 0 {
			t.Fatalf("places %v: a clone of an empty index", at)
		}
		r := repeat(small(1), 24)
		if e, want := y.Put(list(item(r, 1))), (&model{at: at}).put(list(item(r, 1))); e != want || (e == api.OK) != (y.Keys() == 1) {
			t.Errorf("places %v: Put into a clone of an empty index: %d, not %d", at, e, want)
		}
	}
}

// P7.1, X2: on a nil index ErrArg, ahead of all else, nothing, and 0.
func TestNil(t *testing.T) {
	var x *Index
	for _, s := range []zset.Set{nil, {}, list(item(pair(1, 1), 1)), list(item(wrongs()[0], 1)), list(item(nil, most), item(nil, 1))} {
		if e := x.Put(s); e != api.ErrArg {
			t.Errorf("Put(%v) on nil: %d", s, e)
		}
	}
	for _, key := range append(wrongs(), nil, of(null()), pair(1, 1)) {
		if s := x.Find(key); len(s) != 0 {
			t.Errorf("Find(%v) on nil: %v", key, s)
		}
		if s := x.Range(nil, key); len(s) != 0 {
			t.Errorf("Range(nil, %v) on nil: %v", key, s)
		}
	}
	if len(x.All()) != 0 || x.Keys() != 0 || x.Clone() != nil {
		t.Errorf("on nil: %v, %d, %v", x.All(), x.Keys(), x.Clone())
	}
}

// P7.2: the items of all keys are the index's set, none of them twice; each has its key.
func TestByKey(t *testing.T) {
	for _, at := range places() {
		m := model{at: at}
		fit := slices.DeleteFunc(rows(), func(r api.Row) bool { return !m.has(r) })
		if len(fit) == 0 {
			continue
		}
		for seed := range 10 {
			x := made(t, some(seed, seed*6, fit, -1, 1, 2), at...)
			if e := x.Put(some(seed+20, seed*2, fit, -1, 1)); e != api.OK {
				t.Fatalf("places %v: Put: %d", at, e)
			}
			m.set = x.All()
			keys := m.keys()
			var together zset.Set
			for _, key := range keys {
				s := x.Find(key)
				for _, i := range s {
					if r, e := row.Pick(i.Row, at...); e != api.OK || !row.Same(r, key) {
						t.Errorf("places %v: Find(%v) has %v", at, key, i)
					}
				}
				if len(s) == 0 || !s.Right() {
					t.Errorf("places %v: Find(%v): %v", at, key, s)
				}
				together = append(together, s...)
			}
			slices.SortFunc(together, func(a, b api.Item) int { return row.Compare(a.Row, b.Row) })
			if !equal(together, x.All()) || x.Keys() != len(keys) {
				t.Errorf("places %v: the items of all keys: %v, not %v", at, together, x.All())
			}
			// The ranges between keys are all of it too.
			var parts []zset.Set
			for i, key := range keys {
				to := of(api.Value{Kind: 9})
				if i+1 < len(keys) {
					to = keys[i+1]
				}
				if s := x.Range(key, to); !equal(s, x.Find(key)) {
					t.Errorf("places %v: Range(%v, %v): %v, not %v", at, key, to, s, x.Find(key))
				}
				parts = append(parts, x.Range(key, to))
			}
			if s, e := zset.Add(parts...); !equal(s, x.All()) || e != api.OK {
				t.Errorf("places %v: the items of all ranges: %v, %d", at, s, e)
			}
		}
	}
}

// spoil writes into all items of a list, and behind its length.
func spoil(s zset.Set) {
	for i := range s {
		_ = append(s[i].Row, text("more"))
		for j := range s[i].Row {
			s[i].Row[j] = text("spoilt")
		}
		s[i] = item(of(text("spoilt")), 9)
	}
	_ = append(s, item(pair(9, 9), 9))
}

// P7.1: what is told is one's own: what is done to it changes neither the index, nor another list that was told, nor a clone.
func TestOwn(t *testing.T) {
	had := list(item(pair(1, 1), 1), item(pair(1, 2), 2), item(pair(2, 1), 3), item(of(small(3), null(), text("a")), 4))
	for name, tell := range map[string]func(x *Index) zset.Set{
		"Find":           func(x *Index) zset.Set { return x.Find(of(small(1))) },
		"Find of one":    func(x *Index) zset.Set { return x.Find(of(small(2))) },
		"Range":          func(x *Index) zset.Set { return x.Range(nil, of(small(9))) },
		"Range of one":   func(x *Index) zset.Set { return x.Range(of(small(2)), of(small(3))) },
		"All":            func(x *Index) zset.Set { return x.All() },
		"All of a clone": func(x *Index) zset.Set { return x.Clone().All() },
	} {
		x := made(t, copied(had), 0)
		y := x.Clone()
		a, b := tell(x), tell(x)
		c, want := tell(y), copied(b)
		if len(a) == 0 {
			t.Fatalf("%s: nothing", name)
		}
		for i := range a[1:] {
			for j := range a[i].Row {
				a[i].Row[j] = text("first")
			}
			_ = append(a[i].Row, text("more"))
			if !equal(a[i+1:], want[i+1:]) {
				t.Errorf("%s: its rows share memory: %v", name, a)
			}
		}
		spoil(a)
		if !equal(b, want) || !equal(c, want) || !equal(tell(x), want) || !equal(tell(y), want) {
			t.Errorf("%s: it shares memory: %v, %v, %v, not %v", name, b, c, tell(x), want)
		}
		like(t, x, model{[]int{0}, had}, of(small(1)), of(text("spoilt")))
		like(t, y, model{[]int{0}, had}, of(small(1)), of(text("spoilt")))
	}
}

// Rule 4: what is handed in is not kept: places, sets and rows that are changed behind a call change nothing; nor does what a clone was made of.
func TestNotKept(t *testing.T) {
	had := list(item(pair(1, 1), 1), item(pair(1, 2), 2), item(pair(2, 1), 3))
	at := []int{1, 0}
	x := New(at...)
	at[0], at[1] = 0, 5
	s := copied(had)
	if e := x.Put(s); e != api.OK {
		t.Fatalf("Put: %d", e)
	}
	spoil(s)
	like(t, x, model{[]int{1, 0}, had}, pair(1, 2), of(text("spoilt")))
	y := x.Clone()
	more := copied(list(item(pair(1, 1), 4), item(pair(3, 3), 1)))
	if e := x.Put(more); e != api.OK {
		t.Fatalf("Put: %d", e)
	}
	spoil(more)
	like(t, y, model{[]int{1, 0}, had}, pair(3, 3))
	like(t, x, model{[]int{1, 0}, list(item(pair(1, 1), 5), had[1], had[2], item(pair(3, 3), 1))}, pair(3, 3))
	// What an index told is put into it, and into another one, and then changed.
	told := x.All()
	if e := x.Put(told); e != api.OK {
		t.Fatalf("Put: %d", e)
	}
	z := made(t, told, 0)
	spoil(told)
	like(t, x, model{[]int{1, 0}, list(item(pair(1, 1), 10), item(pair(1, 2), 4), item(pair(2, 1), 6), item(pair(3, 3), 2))}, pair(3, 3))
	like(t, z, model{[]int{0}, list(item(pair(1, 1), 5), had[1], had[2], item(pair(3, 3), 1))}, of(small(3)))
}

// Rule 4: no call writes into what it is handed, nor behind its length, nor reads what is there.
func TestHandedIn(t *testing.T) {
	whole := func() zset.Set {
		return list(item(pair(2, 1), 1), item(of(small(1), small(2), truth(2))[:2], 2), item(pair(2, 1), 3), item(pair(1, 1), 0), item(of(truth(2)), most), item(pair(1, 2), most))
	}
	s := whole()
	at := []int{1, 0, 7}
	x := New(at[:2]...)
	if e := x.Put(s[:4]); e != api.OK {
		t.Errorf("Put: %d", e)
	}
	like(t, x, model{[]int{1, 0}, list(item(pair(1, 2), 2), item(pair(2, 1), 4))}, pair(1, 2))
	if e := x.Put(s[:5]); e != api.ErrRow {
		t.Errorf("Put: %d", e)
	}
	if e := x.Put(s[1:4]); e != api.OK {
		t.Errorf("Put: %d", e)
	}
	if e := x.Put(s[5:]); e != api.ErrOver {
		t.Errorf("Put: %d", e)
	}
	if !equal(s, whole()) || !slices.Equal(s[1].Row[:3], whole()[1].Row[:3]) || !slices.Equal(at, []int{1, 0, 7}) {
		t.Errorf("what was handed in is %v, %v now", s, at)
	}
	key, from, to := of(small(2), small(1), truth(2)), of(small(0), truth(2)), of(small(2), small(2), truth(2))
	if !equal(x.Find(key[:2]), list(item(pair(1, 2), 4))) || !equal(x.Range(from[:1], to[:2]), list(item(pair(1, 2), 4), item(pair(2, 1), 7))) {
		t.Errorf("%v, %v", x.Find(key[:2]), x.Range(from[:1], to[:2]))
	}
	if !slices.Equal(key, of(small(2), small(1), truth(2))) || !slices.Equal(from, of(small(0), truth(2))) || !slices.Equal(to, of(small(2), small(2), truth(2))) {
		t.Errorf("what was handed in is %v, %v, %v now", key, from, to)
	}
}

// P1, P2: every call ends, with any places, rows and lists, and answers the same on another index that was given the same, and when it is asked again.
func TestAny(t *testing.T) {
	all := append(append(rows(), wrongs()...), api.Row{})
	for _, at := range append(places(), make([]int, 25), slices.Repeat([]int{0, 1}, 20), slices.Repeat([]int{-1}, 30)) {
		x, y := New(at...), New(at...)
		for seed := range 60 {
			s := some(seed, seed%5, all, 0, 1, -1, most, least)
			if seed%3 > 0 {
				s = some(seed, seed%9, rows()[9:], 0, 1, -1, most, least)
			}
			if e, f := x.Put(s), y.Put(copied(s)); e != f {
				t.Errorf("places %v: Put(%v): %d, and %d", at, s, e, f)
			}
		}
		if !equal(x.All(), y.All()) || x.Keys() != y.Keys() || !equal(x.Clone().All(), y.All()) {
			t.Errorf("places %v: %v, %d keys, and %v, %d", at, x.All(), x.Keys(), y.All(), y.Keys())
		}
		for i, r := range all {
			to := all[(i*5+3)%len(all)]
			if !equal(x.Find(r), y.Find(r)) || !equal(x.Find(r), x.Find(r)) || !equal(x.Range(r, to), y.Range(r, to)) || !equal(x.Range(r, to), x.Range(r, to)) {
				t.Errorf("places %v: of %v and %v: two answers", at, r, to)
			}
		}
	}
}
