package schema_test

import (
	"math"
	"slices"
	"testing"

	"instar/api"
	"instar/schema"
)

// P12.1, S2: Add to none, to one, to as many as may be, and to more.
func TestAdd(t *testing.T) {
	for _, none := range []schema.Schema{nil, {}, ordinary(2)[:0]} {
		got, e := none.Add(col(1, "a", api.Bool))
		told(t, "Add to none", got, e, of(col(1, "a", api.Bool)), api.OK)
	}
	for n := range 16 {
		for _, c := range []api.Column{col(1, "z", api.Text), col(math.MaxInt, "A", api.Bool), col(1000, long(20), api.Int64), col(2, "True", api.Int32)} {
			got, e := ordinary(n).Add(c)
			if n < 12 {
				told(t, "Add", got, e, append(ordinary(n), c), api.OK)
			} else {
				told(t, "Add to too many", got, e, nil, api.ErrFull)
			}
		}
	}
}

// P12.1, S2: each error of Add, and which one comes first, where a column has more than one.
func TestAddErrors(t *testing.T) {
	for _, n := range []int{0, 1, 2, 11, 12, 13} {
		s := ordinary(n)
		refused := func(c api.Column, want api.Errno) {
			t.Helper()
			got, e := s.Add(c)
			told(t, "Add of what may not be", got, e, nil, want)
		}
		free := []string{"z", "Z_1"}
		taken := []string{}
		for _, c := range s {
			taken = append(taken, c.Name)
		}
		for _, name := range noNames() {
			refused(col(1, name, api.Bool), api.ErrArg)
			refused(col(0, name, api.Null), api.ErrArg)
		}
		for _, name := range append(free, taken...) {
			for _, k := range noKinds {
				refused(col(1, name, k), api.ErrArg)
			}
			for _, id := range noIDs {
				refused(col(id, name, api.Int32), api.ErrArg)
			}
			for _, c := range s {
				refused(col(c.ID, name, c.Kind), api.ErrArg)
			}
		}
		for _, name := range taken {
			for i, id := range []int{1, 7000, math.MaxInt, 3} {
				refused(col(id, name, kinds[i]), api.ErrTwice)
			}
		}
		for _, c := range s {
			refused(c, api.ErrArg)
		}
		refused(api.Column{}, api.ErrArg)
	}
}

// P12.1, S2: Add behind what is no schema looks at the names and the IDs that are there, whatever they are.
func TestAddBehind(t *testing.T) {
	for _, s := range lists(2, some()...) {
		for _, c := range some() {
			want, fault := append(slices.Clone(s), c), api.OK
			switch {
			case !right(of(c)) || slices.ContainsFunc(s, func(o api.Column) bool { return o.ID == c.ID }):
				want, fault = nil, api.ErrArg
			case slices.ContainsFunc(s, func(o api.Column) bool { return o.Name == c.Name }):
				want, fault = nil, api.ErrTwice
			}
			got, e := s.Add(c)
			told(t, "Add to "+schema.Show(s), got, e, want, fault)
		}
	}
}

// P12.1, S2: Drop of the first column, of the last, of each between, of the only one, and of one that is not there.
func TestDrop(t *testing.T) {
	for n := range 15 {
		s := ordinary(n)
		for _, name := range []string{"z", "", "A", " a", "a ", "null", long(21), string(rune('a' + n))} {
			got, e := s.Drop(name)
			told(t, "Drop of what is not there", got, e, nil, api.ErrName)
		}
		for i := range n {
			got, e := s.Drop(s[i].Name)
			if n == 1 {
				told(t, "Drop of the only one", got, e, nil, api.ErrUse)
				continue
			}
			var want schema.Schema
			for j, c := range ordinary(n) {
				if j != i {
					want = append(want, c)
				}
			}
			told(t, "Drop of "+s[i].Name, got, e, want, api.OK)
		}
	}
	s := ordinary(3)
	got, e := s[:2].Drop("c")
	told(t, "Drop of the column behind", got, e, nil, api.ErrName)
	got, e = s[:1].Drop("a")
	told(t, "Drop of the only one ahead of others", got, e, nil, api.ErrUse)
	got, e = s[:1].Drop("b")
	told(t, "Drop of another one than the only one", got, e, nil, api.ErrName)
	var none schema.Schema
	got, e = none.Drop("")
	told(t, "Drop from nil", got, e, nil, api.ErrName)
	// Of a name that is there more than once the first is meant; a name that may not be goes, too.
	got, e = of(col(1, "a", 1), col(2, "b", 2), col(3, "b", 3), col(4, "", 0)).Drop("b")
	told(t, "Drop of the first", got, e, of(col(1, "a", 1), col(3, "b", 3), col(4, "", 0)), api.OK)
	got, e = of(col(1, "a", 1), col(4, "", 0)).Drop("")
	told(t, "Drop of no name", got, e, of(col(1, "a", 1)), api.OK)
}

// P12.1, S2: Rename of each column, to a name that is free, that is there, that is its own, that may not be; and of one that is not there.
func TestRename(t *testing.T) {
	for n := range 15 {
		s := ordinary(n)
		for i := range n {
			for _, to := range []string{"z", "A", "Null", "b_1", long(20), "a0"} {
				want := ordinary(n)
				want[i].Name = to
				got, e := s.Rename(s[i].Name, to)
				told(t, "Rename to "+to, got, e, want, api.OK)
			}
			for j := range n {
				got, e := s.Rename(s[i].Name, s[j].Name)
				told(t, "Rename of "+s[i].Name+" to "+s[j].Name, got, e, nil, api.ErrTwice)
			}
			for _, to := range noNames() {
				got, e := s.Rename(s[i].Name, to)
				told(t, "Rename to what may not be", got, e, nil, api.ErrArg)
			}
		}
		for _, name := range []string{"z", "", "A", " a", "null", long(21), string(rune('a' + n))} {
			for _, to := range []string{"y", "a", "", "null", " a", name} {
				got, e := s.Rename(name, to)
				told(t, "Rename of what is not there", got, e, nil, api.ErrName)
			}
		}
	}
	var none schema.Schema
	got, e := none.Rename("a", "b")
	told(t, "Rename in nil", got, e, nil, api.ErrName)
	got, e = ordinary(3)[:2].Rename("a", "c")
	told(t, "Rename to the name behind", got, e, of(col(300, "c", api.Bool), col(293, "b", api.Int32)), api.OK)
}

// P12.1, S2: Rename where columns are no schema: the first of a name is meant, and a name that may not be is ErrArg, even if it is there.
func TestRenameOthers(t *testing.T) {
	s := of(col(1, "and", 1), col(1, "a", 2), col(3, "a", 9), col(0, "", 0))
	for _, c := range []struct {
		name, to string
		at       int
		e        api.Errno
	}{
		{"and", "b", 0, api.OK}, {"a", "b", 1, api.OK}, {"", "b", 3, api.OK},
		{"a", "and", 0, api.ErrArg}, {"and", "and", 0, api.ErrArg}, {"a", "", 0, api.ErrArg}, {"", "", 0, api.ErrArg},
		{"and", "a", 0, api.ErrTwice}, {"a", "a", 0, api.ErrTwice}, {"", "a", 0, api.ErrTwice}, {"or", "or", 0, api.ErrName},
	} {
		var want schema.Schema
		if c.e == api.OK {
			want = slices.Clone(s)
			want[c.at].Name = c.to
		}
		got, e := s.Rename(c.name, c.to)
		told(t, "Rename of "+c.name+" to "+c.to, got, e, want, c.e)
	}
}

// P12.1, S2: Widen of each column to the same kind, to each wider one, to each narrower one, and to what is none; and of one that is not there.
func TestWiden(t *testing.T) {
	goes := map[[2]api.Kind]bool{
		{api.Bool, api.Bool}: true, {api.Bool, api.Int32}: true, {api.Bool, api.Int64}: true,
		{api.Int32, api.Int32}: true, {api.Int32, api.Int64}: true,
		{api.Int64, api.Int64}: true, {api.Text, api.Text}: true,
	}
	for _, n := range []int{1, 2, 3, 4, 11, 12, 13} {
		s := ordinary(n)
		for i := range n {
			for _, k := range kinds {
				var want schema.Schema
				fault := api.ErrNarrow
				if goes[[2]api.Kind{s[i].Kind, k}] {
					want, fault = ordinary(n), api.OK
					want[i].Kind = k
				}
				got, e := s.Widen(s[i].Name, k)
				told(t, "Widen of "+schema.Show(s[i:i+1]), got, e, want, fault)
			}
			for _, k := range noKinds {
				got, e := s.Widen(s[i].Name, k)
				told(t, "Widen to what is no column's", got, e, nil, api.ErrArg)
			}
		}
		for _, name := range []string{"z", "", "A", " a", "null", string(rune('a' + n))} {
			for _, k := range append(slices.Clone(kinds), noKinds...) {
				got, e := s.Widen(name, k)
				told(t, "Widen of what is not there", got, e, nil, api.ErrName)
			}
		}
	}
	var none schema.Schema
	got, e := none.Widen("a", api.Int64)
	told(t, "Widen in nil", got, e, nil, api.ErrName)
	got, e = ordinary(3)[:2].Widen("c", api.Int64)
	told(t, "Widen of the column behind", got, e, nil, api.ErrName)
}

// P12.1, S2: Widen where columns are no schema: the first of a name is meant; each kind is wider than null, and none than what is no kind.
func TestWidenOthers(t *testing.T) {
	for _, k := range kinds {
		got, e := of(col(0, "and", api.Null), col(0, "and", k)).Widen("and", k)
		told(t, "Widen of null", got, e, of(col(0, "and", k), col(0, "and", k)), api.OK)
		for _, was := range noKinds[1:] {
			got, e := of(col(1, "a", was)).Widen("a", k)
			told(t, "Widen of what is no kind", got, e, nil, api.ErrNarrow)
			got, e = of(col(1, "a", was)).Widen("a", was)
			told(t, "Widen of what is no kind to itself", got, e, nil, api.ErrArg)
		}
	}
}

// after are all columns that come of a schema by one change: each call, each with some arguments.
func after(s schema.Schema) []schema.Schema {
	var l []schema.Schema
	keep := func(got schema.Schema, e api.Errno) {
		if e == api.OK {
			l = append(l, got)
		}
	}
	for _, name := range []string{"a", "b", "c", "A", "", "and", " a", "1", long(20), long(21)} {
		for _, k := range []api.Kind{-1, 0, 1, 2, 3, 4, 5} {
			for _, id := range []int{math.MinInt, -1, 0, 1, 2, 3, math.MaxInt} {
				keep(s.Add(col(id, name, k)))
			}
			keep(s.Widen(name, k))
		}
		keep(s.Drop(name))
		for _, to := range []string{"a", "b", "A", "", "not", "b ", "x"} {
			keep(s.Rename(name, to))
		}
	}
	return l
}

// P12.2: of a schema another one comes, whatever the call is: of each schema of two columns, and of those that come of it, twice.
func TestStays(t *testing.T) {
	n := 0
	for _, s := range lists(2, some()...) {
		if !s.Right() {
			continue
		}
		for i, one := range after(s) {
			if n++; !right(one) || !one.Right() {
				t.Fatalf("of %v comes %v", s, one)
			}
			if i%40 > 0 {
				continue
			}
			for _, two := range after(one) {
				if !right(two) || !two.Right() {
					t.Fatalf("of %v comes %v", one, two)
				}
			}
		}
	}
	if n < 1000 {
		t.Errorf("only %d schemas came", n)
	}
}

// P12.2: of a schema of each length another one comes, and from one column to twelve, and back.
func TestStaysAll(t *testing.T) {
	for n := 1; n <= 12; n++ {
		for _, s := range after(ordinary(n)) {
			if !right(s) || !s.Right() {
				t.Fatalf("of %d columns come %v", n, s)
			}
		}
	}
	s := ordinary(1)
	for i, c := range ordinary(14)[1:] {
		next, e := s.Add(c)
		if want := map[bool]api.Errno{true: api.OK, false: api.ErrFull}[i < 11]; e != want || e == api.OK && !right(next) {
			t.Fatalf("Add(%v): %v, %d", c, next, e)
		}
		if e == api.OK {
			s = next
		}
	}
	for len(s) > 1 {
		next, e := s.Drop(s[len(s)/2].Name)
		if e != api.OK || !right(next) || len(next) != len(s)-1 {
			t.Fatalf("Drop from %v: %v, %d", s, next, e)
		}
		s = next
	}
	if next, e := s.Drop(s[0].Name); next != nil || e != api.ErrUse {
		t.Errorf("Drop: %v, %d", next, e)
	}
}

// tellers are the calls that tell a schema, each on one of three columns or more.
func tellers() map[string]func(s schema.Schema) schema.Schema {
	tell := func(f func(s schema.Schema) (schema.Schema, api.Errno)) func(s schema.Schema) schema.Schema {
		return func(s schema.Schema) schema.Schema { l, _ := f(s); return l }
	}
	return map[string]func(s schema.Schema) schema.Schema{
		"Add":               tell(func(s schema.Schema) (schema.Schema, api.Errno) { return s.Add(col(1, "z", api.Bool)) }),
		"Drop of the first": tell(func(s schema.Schema) (schema.Schema, api.Errno) { return s.Drop("a") }),
		"Drop of another":   tell(func(s schema.Schema) (schema.Schema, api.Errno) { return s.Drop("b") }),
		"Drop of the last":  tell(func(s schema.Schema) (schema.Schema, api.Errno) { return s.Drop(s[len(s)-1].Name) }),
		"Rename":            tell(func(s schema.Schema) (schema.Schema, api.Errno) { return s.Rename("b", "z") }),
		"Widen":             tell(func(s schema.Schema) (schema.Schema, api.Errno) { return s.Widen("a", api.Int64) }),
		"Widen to the same": tell(func(s schema.Schema) (schema.Schema, api.Errno) { return s.Widen("a", api.Bool) }),
	}
}

// spoil writes into a list of columns, and behind its length.
func spoil(s schema.Schema) {
	for i := range s[:cap(s)] {
		s[:cap(s)][i] = col(-9, "spoiled", 9)
	}
}

// P12.1, S2: a schema that is told is one's own: what is done to it changes nothing of what was handed in, nor of what else was told, nor the other way round.
func TestOwn(t *testing.T) {
	for name, tell := range tellers() {
		for _, n := range []int{3, 4, 11} {
			for _, room := range []int{0, 5} {
				whole := ordinary(n + room)
				s := whole[:n]
				one, two := tell(s), tell(s)
				before := slices.Clone(one)
				if len(one) == 0 || !slices.Equal(whole, ordinary(n+room)) {
					t.Fatalf("%s: %v; what was handed in is %v now", name, one, whole)
				}
				spoil(one)
				if !slices.Equal(whole, ordinary(n+room)) || !slices.Equal(two, before) {
					t.Errorf("%s: what was done to it came to %v, and %v", name, whole, two)
				}
				spoil(s)
				if !slices.Equal(two, before) {
					t.Errorf("%s: what was done to what was handed in came to %v", name, two)
				}
			}
		}
	}
	s := ordinary(3)
	k := s.Kinds()
	clear(k)
	if !slices.Equal(s, ordinary(3)) || !slices.Equal(s.Kinds(), kinds[:3]) {
		t.Errorf("what was done to the kinds came to %v", s)
	}
}

// Rules 3 and 4: no call writes into what it is handed, nor behind its length, with an error or without.
func TestHandedIn(t *testing.T) {
	for _, n := range []int{0, 1, 2, 11, 12, 13} {
		whole := ordinary(n + 3)
		s := whole[:n]
		after(s)
		s.Right()
		s.Find("a")
		s.Kinds()
		s.Add(col(50, "z", api.Bool))
		s.Widen("b", api.Bool)
		schema.Alike(s, s)
		schema.Alike(s, whole)
		schema.Show(s)
		if !slices.Equal(whole, ordinary(n+3)) {
			t.Errorf("of %d columns: what was handed in is %v now", n, whole)
		}
	}
}
