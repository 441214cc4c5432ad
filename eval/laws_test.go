package eval_test

import (
	"reflect"
	"slices"
	"testing"

	"instar/api"
	"instar/eval"
	"instar/zset"
)

// sets are small sets: all of up to three rows with some weights.
func sets(t *testing.T) []zset.Set {
	var l []zset.Set
	for _, i := range []int64{0, 1, -1, 3} {
		for _, j := range []int64{0, 1, -2, top / 4} {
			for _, k := range []int64{0, 1, -1, bottom / 4} {
				l = append(l, set(t, item(i, 1, int64(1)), item(j, 1, nil), item(k, nil, int64(2))))
			}
		}
	}
	return l
}

// step is what a plan of a text comes to, where nothing is wrong.
func step(t *testing.T, p api.Plan, in ...zset.Set) zset.Set {
	t.Helper()
	s, e := eval.Step(p, in...)
	if e != api.OK || !s.Right() {
		t.Fatalf("Step(%s) of %v: %s, %d", p.Op, in, show(s), e)
	}
	return s
}

// P15.2: what distinct comes to is as a set is: each row with a weight above 0 is there once, and what is distinct stays so; a union is of any order, and of any nesting; nothing adds nothing.
func TestLaws(t *testing.T) {
	distinct, union, three := planned(t, "distinct(t)"), planned(t, "union(t, t)"), planned(t, "union(t, t, t)")
	same := func(a, b zset.Set, s string) {
		t.Helper()
		if !zset.Same(a, b) {
			t.Errorf("%s: %s, and %s", s, show(a), show(b))
		}
	}
	l := sets(t)
	for _, a := range l {
		once := step(t, distinct, a)
		same(step(t, distinct, once), once, "distinct, and distinct again")
		for _, x := range a {
			if once.Get(x.Row) != max(0, min(x.Weight, 1)) {
				t.Errorf("distinct of %s: %s", show(a), show(once))
			}
		}
		for _, x := range once {
			if a.Get(x.Row) <= 0 {
				t.Errorf("distinct of %s: %s", show(a), show(once))
			}
		}
		same(step(t, union, a, nil), a, "a set, and nothing")
		same(step(t, union, nil, a), a, "nothing, and a set")
		neg, e := a.Neg()
		if e != api.OK {
			t.Fatalf("Neg of %s: %d", show(a), e)
		}
		same(step(t, union, a, neg), nil, "a set, and its Neg")
		same(step(t, distinct, step(t, union, once, once)), once, "distinct of twice the same")
		for i, b := range l {
			ab := step(t, union, a, b)
			same(ab, step(t, union, b, a), "two, and the other way round")
			sum, _ := zset.Add(a, b)
			same(ab, sum, "the sum of two")
			if a.Positive() && b.Positive() {
				same(step(t, distinct, ab), step(t, distinct, step(t, union, once, step(t, distinct, b))), "distinct of what is distinct, and of all")
			}
			c := l[(i*7+5)%len(l)]
			same(step(t, union, ab, c), step(t, union, a, step(t, union, b, c)), "three, nested")
			same(step(t, three, a, b, c), step(t, union, ab, c), "three at once")
			same(step(t, three, c, a, b), step(t, union, ab, c), "three in another order")
		}
	}
}

// P15.2: the same of whole queries.
func TestLawsOfQueries(t *testing.T) {
	for i, a := range sets(t) {
		b := sets(t)[(i*5+3)%64]
		db := []api.Data{data("t", a...), {Table: "w"}}
		for _, x := range b {
			db[1].Items = append(db[1].Items, api.Item{Row: slices.Concat(values(nil, nil), x.Row), Weight: x.Weight})
		}
		w := "project(w, x = i, y = j)"
		for _, two := range [][2]string{
			{"union(t, " + w + ")", "union(" + w + ", t)"}, {"union(union(t, " + w + "), t)", "union(t, " + w + ", t)"}, {"union(t, union(t, " + w + "))", "union(t, t, " + w + ")"}, {"distinct(distinct(t))", "distinct(t)"},
			{"distinct(union(t, t))", "distinct(t)"}, {"filter(union(t, " + w + "), a = 1)", "union(filter(t, a = 1), filter(" + w + ", x = 1))"}, {"project(union(t, " + w + "), a = a)", "union(project(t, a = a), project(" + w + ", a = x))"},
			{"distinct(filter(t, b = 1))", "filter(distinct(t), b = 1)"}, {"distinct(union(filter(t, a = 1), filter(t, a is null)))", "distinct(t)"},
		} {
			one, e := eval.Of(planned(t, two[0]), db...)
			other, also := eval.Of(planned(t, two[1]), db...)
			if e != api.OK || also != api.OK || !zset.Same(one, other) {
				t.Errorf("%s: %s, %d; %s: %s, %d", two[0], show(one), e, two[1], show(other), also)
			}
		}
	}
}

// memory is where the lists of a thing lie, each from its first byte to the one behind its last.
func memory(v reflect.Value) (all [][2]uintptr) {
	switch v.Kind() {
	case reflect.Slice:
		if v.Cap() > 0 {
			all = append(all, [2]uintptr{v.Pointer(), v.Pointer() + uintptr(v.Cap())*v.Type().Elem().Size()})
		}
		for i := range v.Len() {
			all = append(all, memory(v.Index(i))...)
		}
	case reflect.Struct:
		for i := range v.NumField() {
			all = append(all, memory(v.Field(i))...)
		}
	}
	return all
}

// roomy are items in lists with room behind their length, in which stands what may be neither read nor written.
func roomy(l []api.Item) []api.Item {
	l = slices.Clone(l)
	for i, x := range l {
		r := append(slices.Clone(x.Row), values("room")...)
		l[i].Row = r[:len(r)-1]
	}
	return append(l, item(7, "room"), item(7, "room"))[:len(l)]
}

// seen is items' text, with what stands behind their lists' length.
func seen(l []api.Item) string {
	l = l[:len(l)+2]
	s := show(l)
	for _, x := range l[:len(l)-2] {
		s += show([]api.Item{{Row: x.Row[:len(x.Row)+1]}})
	}
	return s
}

// P15.1, rule 4: nothing that is handed in is written; what is told is memory of its own, each list for itself, and what is done to it changes nothing of what was handed in.
func TestNothingShared(t *testing.T) {
	a := roomy([]api.Item{item(2, 2, int64(9)), item(1, 1, int64(7)), item(-3, 2, nil), item(1, nil, nil), item(1, 1, int64(7)), item(3, 3, int64(3))})
	b := roomy([]api.Item{item(2, int64(9)), item(-1, int64(7)), item(5, nil), item(3, int64(3))})
	db := append([]api.Data{data("t", a...), data("n", b...)}, data("room", item(1)))[:2]
	db[0].Items, db[1].Items = a, b
	for _, q := range []string{"t", "n", "filter(t, true)", "filter(t, b > 3)", "project(t, z = b, y = a)", "join(t, n, b = k)", "union(t, t)", "union(n, project(t, z = b), n)", "distinct(t)", "group(t, by a, l = min(b), m = max(b), c = count())", "group(n, c = count())", "distinct(union(filter(t, true), t))"} {
		p, before := planned(t, q), seen(a)+seen(b)
		kept := planned(t, q)
		// In order, as sets are: Step takes no others.
		var in []zset.Set
		for _, k := range p.Kids {
			s, _ := eval.Of(k, db...)
			in = append(in, roomy(s))
		}
		all := ""
		for _, s := range in {
			all += seen(s)
		}
		out, e := eval.Of(p, db...)
		outs, held := []zset.Set{out}, show(out)
		if p.Op != "from" {
			also, fault := eval.Step(p, in...)
			if outs = append(outs, also); show(also) != held || fault != api.OK {
				t.Errorf("Step(%s): %s, %d", q, show(also), fault)
			}
		}
		places := slices.Concat(memory(reflect.ValueOf(p)), memory(reflect.ValueOf(db)), memory(reflect.ValueOf(in)), memory(reflect.ValueOf(outs)))
		for i, x := range places {
			for _, y := range places[:i] {
				if x[0] < y[1] && y[0] < x[1] {
					t.Errorf("%s: two lists share memory", q)
				}
			}
		}
		for _, s := range outs {
			spoil(s)
		}
		same := ""
		for _, s := range in {
			same += seen(s)
		}
		if e != api.OK || held == "" || seen(a)+seen(b) != before || same != all || !reflect.DeepEqual(p, kept) || db[:3][2].Table != "room" {
			t.Errorf("%s: %s, %d, what was handed in is another thing then", q, held, e)
		}
		if again, e := eval.Of(p, db...); show(again) != held || e != api.OK {
			t.Errorf("%s: %s, %d, and then %s", q, show(again), e, held)
		}
	}
}

// spoil makes all of a set another thing, with what stands behind its lists' length.
func spoil(s zset.Set) {
	for i := range s[:cap(s)] {
		r := s[:cap(s)][i].Row
		for j := range r[:cap(r)] {
			r[:cap(r)][j] = api.Value{Kind: api.Text, S: "spoiled"}
		}
		s[:cap(s)][i].Weight = 99
	}
}

// P15.1: what a plan comes to hangs on no order of a table's items.
func TestAnyOrder(t *testing.T) {
	l := []api.Item{item(2, 2, int64(9)), item(top, 1, int64(7)), item(-top, 1, int64(7)), item(1, nil, nil), item(3, 1, int64(7)), item(-3, 3, int64(3))}
	for _, q := range asked() {
		p := planned(t, q)
		first, fault := eval.Of(p, data("t", l...), data("n", item(1, int64(7))))
		for i := range l {
			turned := slices.Concat(l[i:], l[:i])
			for range 2 {
				slices.Reverse(turned)
				if s, e := eval.Of(p, data("n", item(1, int64(7))), data("t", turned...)); !zset.Same(s, first) || e != fault {
					t.Errorf("%s: %s, %d, and %s, %d", q, show(s), e, show(first), fault)
				}
			}
		}
	}
}
