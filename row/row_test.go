package row

import (
	"math"
	"slices"
	"strings"
	"testing"

	"instar/api"
	"instar/code"
	"instar/value"
)

// Short forms of values.
func null() api.Value         { return api.Value{} }
func truth(n int64) api.Value { return api.Value{Kind: api.Bool, N: n} }
func small(n int64) api.Value { return api.Value{Kind: api.Int32, N: n} }
func big(n int64) api.Value   { return api.Value{Kind: api.Int64, N: n} }
func text(s string) api.Value { return api.Value{Kind: api.Text, S: s} }
func long(n int) string       { return strings.Repeat("x", n) }

// of is values as a row.
func of(l ...api.Value) api.Row { return l }

// count is a row of n numbers, from 0 on.
func count(n int) api.Row {
	r := api.Row{}
	for i := range n {
		r = append(r, big(int64(i)))
	}
	return r
}

// values are right ones of all kinds, each below all behind it.
func values() []api.Value {
	return []api.Value{
		null(), truth(0), truth(1), small(math.MinInt32), small(-1), small(0), small(7), small(math.MaxInt32),
		big(math.MinInt64), big(-1), big(0), big(1 << 31), big(math.MaxInt64),
		text(""), text("\x00"), text("\x00\x00"), text("\x00a"), text("\x00\xff"), text("\x01"), text("a"), text("a\x00"), text("a\x00b"), text("a\x01"), text("ab"), text("a\xff"), text("b"), text(long(200)), text("\xff"), text("\xff\x00"),
	}
}

// wrongs are values that are not right.
func wrongs() []api.Value {
	return []api.Value{
		{N: 1}, {S: "a"}, truth(2), truth(-1), {Kind: api.Bool, S: "a"}, small(math.MaxInt32 + 1), small(math.MinInt32 - 1), {Kind: api.Int32, S: "a"}, {Kind: api.Int64, N: 1, S: "a"},
		text(long(201)), {Kind: api.Text, N: 1, S: "a"}, {Kind: 5}, {Kind: -1}, {Kind: 256}, {Kind: math.MinInt}, {Kind: math.MaxInt},
	}
}

// columns are the kinds that a column may be of, and noColumns others.
func columns() []api.Kind { return []api.Kind{api.Bool, api.Int32, api.Int64, api.Text} }
func noColumns() []api.Kind {
	return []api.Kind{api.Null, 5, -1, 256, 257, math.MinInt, math.MaxInt}
}

// rights are right rows: none of two is the same.
func rights() []api.Row {
	l := []api.Row{nil, count(23), count(24), slices.Repeat(of(null()), 24), slices.Repeat(of(text(long(200))), 24)}
	for i, v := range values() {
		l = append(l, of(v))
		for j, w := range values() {
			l = append(l, of(v, w))
			if (i+j)%3 == 0 {
				l = append(l, of(v, w, null()), of(v, w, text("a\x00"), truth(1)), of(v, null(), w, small(5)))
			}
		}
	}
	return l
}

// wrongRows are rows that are not right: by one value, at each place of a short one, and at the ends of a long one, or by how many values they have.
func wrongRows() []api.Row {
	l := []api.Row{count(25), slices.Repeat(of(null()), 25), slices.Repeat(of(text("")), 25), count(26), count(48), count(1000)}
	for _, w := range wrongs() {
		l = append(l, of(w), of(w, small(1)), of(small(1), w), of(null(), w, text("a")), of(w, w), append(count(23), w), append(of(w), count(23)...), append(count(24), w))
	}
	return l
}

// pairs are some rows, right ones and others, of which two differ.
func pairs() []api.Row {
	l := []api.Row{nil, count(23), count(24), count(25), count(26), append(count(24), big(25)), append(count(23), big(0))}
	some := append(wrongs(), null(), truth(0), truth(1), small(-1), small(1), big(-1), big(1), text(""), text("\x00"), text("a"), text("a\x00"), text("ab"), text("b"))
	for _, v := range some {
		l = append(l, of(v), of(v, null()), of(null(), v, v), of(text("a"), v))
	}
	return l
}

// order says how two rows are in order, by the document's words: one by one, the shorter first.
func order(a, b api.Row) int {
	switch {
	case len(a) == 0 && len(b) == 0:
		return 0
	case len(a) == 0:
		return -1
	case len(b) == 0:
		return 1
	case a[0] != b[0]:
		return value.Compare(a[0], b[0])
	}
	return order(a[1:], b[1:])
}

// P5.1, R1: Right of rows of no value, of one, of 24, and of 25, and where one value is not.
func TestRight(t *testing.T) {
	for _, r := range append(rights(), api.Row{}) {
		if !Right(r) {
			t.Errorf("Right(%v): false", r)
		}
	}
	for _, r := range wrongRows() {
		if Right(r) {
			t.Errorf("Right(%v): true", r)
		}
	}
	for n := range 60 {
		if Right(count(n)) != (n <= 24) {
			t.Errorf("Right of %d values: %v", n, Right(count(n)))
		}
	}
}

// P5.1, R1: Compare, and Same, by cases.
func TestCompare(t *testing.T) {
	for _, c := range []struct {
		a, b api.Row
		want int
	}{
		{nil, nil, 0}, {nil, api.Row{}, 0}, {nil, of(null()), -1}, {of(null()), of(null()), 0}, {of(null()), of(null(), null()), -1},
		{of(small(1)), of(small(2)), -1}, {of(small(-1)), of(small(1)), -1}, {of(small(9)), of(big(1)), -1}, {of(truth(1)), of(small(0)), -1}, {of(null()), of(truth(0)), -1}, {of(big(9)), of(text("")), -1},
		{of(small(1), small(9)), of(small(2), small(1)), -1}, {of(small(1), small(9)), of(small(1), small(10)), -1}, {of(small(1), small(2), small(3)), of(small(1), small(3)), -1}, {of(small(2)), of(small(1), small(5)), 1},
		{of(text("a")), of(text("a\x00")), -1}, {of(text("a"), text("b")), of(text("a\x00")), -1}, {of(text("a\x00")), of(text("a\x01")), -1}, {of(text("Z")), of(text("a")), -1}, {of(text("a"), text("b")), of(text("ab")), -1},
		{count(24), count(25), -1}, {count(25), count(25), 0}, {append(count(25), big(1)), append(count(25), big(2)), -1},
		{of(truth(2)), of(truth(3)), -1}, {of(truth(2)), of(truth(2)), 0}, {of(api.Value{N: 1}), of(null()), 1}, {of(api.Value{S: "a"}), of(null()), 1}, {of(api.Value{Kind: 5}), of(text("z")), 1}, {of(api.Value{Kind: -1}), of(null()), -1}, {of(api.Value{Kind: api.Int64, S: "a"}), of(big(0)), 1},
	} {
		for _, d := range []struct {
			a, b api.Row
			want int
		}{{c.a, c.b, c.want}, {c.b, c.a, -c.want}} {
			if got := Compare(d.a, d.b); got != d.want {
				t.Errorf("Compare(%v, %v): %d, not %d", d.a, d.b, got, d.want)
			}
			if got := Same(d.a, d.b); got != (d.want == 0) {
				t.Errorf("Same(%v, %v): %v", d.a, d.b, got)
			}
		}
	}
}

// P5.1, R1: Compare, and Same, of all pairs of some rows, whether they are right or not.
func TestCompareAll(t *testing.T) {
	l := pairs()
	for i, a := range l {
		for j, b := range l {
			// The same values at another place in memory.
			b = append(api.Row{}, b...)
			if got, want := Compare(a, b), order(a, b); got != want {
				t.Errorf("Compare(%v, %v): %d, not %d", a, b, got, want)
			}
			if got := Same(a, b); got != slices.Equal(a, b) || i == j && !got {
				t.Errorf("Same(%v, %v): %v", a, b, got)
			}
		}
	}
}

// P5.1, R1: of a row and its beginnings the shorter one is first.
func TestBeginnings(t *testing.T) {
	for _, r := range []api.Row{count(26), slices.Repeat(of(null()), 5), of(text(""), text(""), text("")), of(truth(2), truth(2))} {
		for i := range len(r) {
			for j := range len(r) {
				want := 0
				if i < j {
					want = -1
				} else if i > j {
					want = 1
				}
				if got := Compare(r[:i], r[:j]); got != want || Same(r[:i], r[:j]) != (i == j) {
					t.Errorf("Compare(%v, %v): %d", r[:i], r[:j], got)
				}
			}
		}
	}
}

// P5.1, R1: Fits of one value in each kind.
func TestFitsOne(t *testing.T) {
	for _, k := range columns() {
		for _, v := range values() {
			want := v.Kind == k || v.Kind == api.Null
			if Fits(of(v), k) != want {
				t.Errorf("Fits(%v, %d): %v", v, k, !want)
			}
			if Fits(of(null(), v, null()), k, k, k) != want {
				t.Errorf("Fits(%v in the middle, %d): %v", v, k, !want)
			}
		}
		for _, v := range wrongs() {
			if Fits(of(v), k) || Fits(of(v), v.Kind) || Fits(of(null(), v), k, k) || Fits(of(v, null()), v.Kind, k) {
				t.Errorf("Fits(%v, %d): true", v, k)
			}
		}
	}
	for _, k := range noColumns() {
		for _, v := range append(values(), api.Value{Kind: k}) {
			if Fits(of(v), k) || Fits(of(null(), v), api.Bool, k) || Fits(of(v, null()), k, api.Bool) {
				t.Errorf("Fits(%v, %d): true", v, k)
			}
		}
	}
}

// P5.1, R1: Fits of as many values as kinds, in their order, and of more and fewer.
func TestFits(t *testing.T) {
	all := of(truth(1), small(2), big(3), text("d"))
	if !Fits(all, columns()...) || !Fits(slices.Repeat(of(null()), 4), columns()...) {
		t.Error("a row of each kind, or of no value known, does not fit")
	}
	for i := range len(all) {
		r := slices.Clone(all)
		if r[i] = null(); !Fits(r, columns()...) {
			t.Errorf("Fits(%v): false", r)
		}
		if r[i] = wrongs()[i]; Fits(r, columns()...) {
			t.Errorf("Fits(%v): true", r)
		}
		kinds := columns()
		if kinds[i] = columns()[(i+1)%4]; Fits(all, kinds...) {
			t.Errorf("Fits(%v, %v): true", all, kinds)
		}
	}
	for n := range 8 {
		for m := range 8 {
			r, kinds := slices.Repeat(of(null()), n), slices.Repeat([]api.Kind{api.Text}, m)
			if Fits(r, kinds...) != (n == m) {
				t.Errorf("Fits of %d values, and %d kinds: %v", n, m, n != m)
			}
		}
	}
	if !Fits(nil) || !Fits(api.Row{}) || Fits(nil, api.Bool) || Fits(of(null())) || Fits(nil, api.Null) {
		t.Error("Fits of no value, or no kind")
	}
	for _, n := range []int{1, 23, 24, 25, 26, 48, 1000} {
		if Fits(count(n), slices.Repeat([]api.Kind{api.Int64}, n)...) != (n <= 24) {
			t.Errorf("Fits of %d values: %v", n, n > 24)
		}
	}
}

// P5.1, R2: Pick.
func TestPick(t *testing.T) {
	r := of(small(7), null(), text("a"), truth(2))
	for _, c := range []struct {
		r, want api.Row
		at      []int
		e       api.Errno
	}{
		{nil, nil, nil, api.OK}, {r, nil, nil, api.OK}, {r, nil, []int{}, api.OK},
		{r, of(small(7)), []int{0}, api.OK}, {r, of(truth(2)), []int{3}, api.OK}, {r, r, []int{0, 1, 2, 3}, api.OK},
		{r, of(truth(2), text("a"), null(), small(7)), []int{3, 2, 1, 0}, api.OK}, {r, of(text("a"), small(7), text("a")), []int{2, 0, 2}, api.OK}, {r, of(null(), null(), null(), null(), null(), null()), []int{1, 1, 1, 1, 1, 1}, api.OK},
		{r, nil, []int{4}, api.ErrRow}, {r, nil, []int{-1}, api.ErrRow}, {r, nil, []int{5}, api.ErrRow}, {r, nil, []int{math.MaxInt}, api.ErrRow}, {r, nil, []int{math.MinInt}, api.ErrRow}, {r, nil, []int{1 << 32}, api.ErrRow}, {r, nil, []int{-1 << 32}, api.ErrRow},
		{r, nil, []int{0, 1, 4}, api.ErrRow}, {r, nil, []int{4, 0}, api.ErrRow}, {r, nil, []int{0, -1, 2}, api.ErrRow}, {r, nil, []int{-4, 4}, api.ErrRow},
		{nil, nil, []int{0}, api.ErrRow}, {api.Row{}, nil, []int{-1}, api.ErrRow}, {r[:2], nil, []int{2}, api.ErrRow}, {r[:2], nil, []int{3}, api.ErrRow}, {r[:2], of(null()), []int{1}, api.OK}, {r[1:], nil, []int{3}, api.ErrRow},
		{count(30), of(big(29), big(24)), []int{29, 24}, api.OK}, {count(30), nil, []int{30}, api.ErrRow},
	} {
		got, e := Pick(c.r, c.at...)
		if !slices.Equal(got, c.want) || e != c.e {
			t.Errorf("Pick(%v, %v): %v, %d; not %v, %d", c.r, c.at, got, e, c.want, c.e)
		}
	}
	many := slices.Repeat([]int{2}, 1000)
	if got, e := Pick(r, many...); !slices.Equal(got, slices.Repeat(of(text("a")), 1000)) || e != api.OK {
		t.Errorf("Pick of a place 1000 times: %d values, %d", len(got), e)
	}
}

// P5.1, R2: Join.
func TestJoin(t *testing.T) {
	a, b, w := of(small(7), null()), of(text("a")), of(truth(2), api.Value{Kind: 9, N: 1, S: "b"})
	for _, c := range []struct {
		l    []api.Row
		want api.Row
	}{
		{nil, nil}, {[]api.Row{}, nil}, {[]api.Row{nil}, nil}, {[]api.Row{nil, {}, nil}, nil},
		{[]api.Row{a}, a}, {[]api.Row{a, b}, of(small(7), null(), text("a"))}, {[]api.Row{b, a}, of(text("a"), small(7), null())}, {[]api.Row{a, a}, of(small(7), null(), small(7), null())},
		{[]api.Row{nil, a, {}, b, nil}, of(small(7), null(), text("a"))}, {[]api.Row{b, w, b}, of(text("a"), w[0], w[1], text("a"))},
		{[]api.Row{count(12), count(12)}, append(count(12), count(12)...)}, {[]api.Row{count(24), b}, append(count(24), b...)}, {[]api.Row{count(25), count(3), count(40)}, append(append(count(25), count(3)...), count(40)...)},
		// What lies behind a list's length is not its own.
		{[]api.Row{count(5)[:2], b}, of(big(0), big(1), text("a"))},
	} {
		if got := Join(c.l...); !slices.Equal(got, c.want) {
			t.Errorf("Join(%v): %v, not %v", c.l, got, c.want)
		}
	}
	if got := Join(slices.Repeat([]api.Row{a}, 1000)...); !slices.Equal(got, slices.Repeat(a, 1000)) {
		t.Errorf("Join of 1000 rows: %d values", len(got))
	}
}

// P5.3: what was joined, each row of it, is picked again.
func TestPickJoined(t *testing.T) {
	l := append(wrongRows(), nil, of(null()), of(text("a\x00"), small(1)), count(24), of(truth(1), truth(0), null(), big(5)))
	for i, a := range l {
		for j, b := range l {
			parts := []api.Row{a, b, l[(i+j)%len(l)]}
			joined := Join(parts...)
			n := 0
			for _, p := range parts {
				at := []int{}
				for range len(p) {
					at = append(at, n)
					n++
				}
				if got, e := Pick(joined, at...); !slices.Equal(got, p) || e != api.OK {
					t.Errorf("%v was joined, and %v, %d picked", p, got, e)
				}
			}
			if _, e := Pick(joined, n); len(joined) != n || e != api.ErrRow {
				t.Errorf("%v were joined to %v", parts, joined)
			}
		}
	}
}

// P5.1, R2: Key.
func TestKey(t *testing.T) {
	for _, c := range []struct {
		r    api.Row
		want string
	}{
		{nil, ""}, {api.Row{}, ""}, {of(null()), "\x00"}, {of(truth(1)), "\x01\x01"}, {of(small(7)), "\x02\x80\x00\x00\x07"}, {of(big(-1)), "\x03\x7f\xff\xff\xff\xff\xff\xff\xff"}, {of(text("a")), "\x04a\x00\x00"},
		{of(text("a\x00b"), null(), small(-1)), "\x04a\x00\xffb\x00\x00\x00\x02\x7f\xff\xff\xff"}, {of(text(""), text("")), "\x04\x00\x00\x04\x00\x00"},
		{slices.Repeat(of(null()), 24), strings.Repeat("\x00", 24)}, {slices.Repeat(of(null()), 25), ""}, {slices.Repeat(of(truth(1)), 24), strings.Repeat("\x01\x01", 24)},
	} {
		if got := Key(c.r); got != c.want {
			t.Errorf("Key(%v): %q, not %q", c.r, got, c.want)
		}
	}
	for _, r := range rights() {
		if want, _ := code.Encode(r...); Key(r) != want {
			t.Errorf("Key(%v): %q, not %q", r, Key(r), want)
		}
	}
	for _, r := range wrongRows() {
		if got := Key(r); got != "" {
			t.Errorf("Key(%v): %q", r, got)
		}
	}
}

// P5.2: the keys of right rows are in order as the rows are.
func TestInOrder(t *testing.T) {
	l := rights()
	keys := []string{}
	for _, r := range l {
		keys = append(keys, Key(r))
	}
	for i, a := range l {
		for j, b := range l {
			want := strings.Compare(keys[i], keys[j])
			if got := Compare(a, b); got != want || (want == 0) != (i == j) {
				t.Errorf("Compare(%v, %v): %d, their keys': %d", a, b, got, want)
			}
		}
	}
}

// P5.1, R2: Show.
func TestShow(t *testing.T) {
	for _, c := range []struct {
		r    api.Row
		want string
	}{
		{nil, "()"}, {api.Row{}, "()"}, {of(null()), "(null)"}, {of(truth(0)), "(false)"}, {of(truth(1)), "(true)"}, {of(small(-7)), "(-7)"}, {of(big(math.MinInt64)), "(-9223372036854775808)"}, {of(text("a")), "('a')"}, {of(text("")), "('')"},
		{of(null(), truth(0), truth(1), small(7), big(-1), text("a")), "(null, false, true, 7, -1, 'a')"}, {of(text("a'b"), text(", "), text(")")), "('a''b', ', ', ')')"}, {of(text("\x00\xff")), "('\x00\xff')"},
		{of(truth(2)), "(?)"}, {of(small(1), truth(2), text("?")), "(1, ?, '?')"}, {of(api.Value{Kind: 5}, api.Value{N: 1}), "(?, ?)"}, {of(text(long(201)), text(long(200))), "(?, '" + long(200) + "')"},
		{slices.Repeat(of(null()), 25), "(" + strings.Repeat("null, ", 24) + "null)"},
	} {
		if got := Show(c.r); got != c.want {
			t.Errorf("Show(%v): %s, not %s", c.r, got, c.want)
		}
	}
	for _, r := range append(rights(), wrongRows()...) {
		want := "("
		for i, v := range r {
			if i > 0 {
				want += ", "
			}
			want += value.Show(v)
		}
		if got := Show(r); got != want+")" {
			t.Errorf("Show(%v): %s", r, got)
		}
	}
}

// P5.1, R2: a row that is told is one's own: what is done to it, and what was done to those it was made of, changes no other one.
func TestOwn(t *testing.T) {
	told := map[string]func(l ...api.Row) api.Row{
		"Pick of all":    func(l ...api.Row) api.Row { p, _ := Pick(l[0], 0, 1, 2, 3, 4); return p },
		"Pick of some":   func(l ...api.Row) api.Row { p, _ := Pick(l[0], 1, 2); return p },
		"Pick of none":   func(l ...api.Row) api.Row { p, _ := Pick(l[0]); return p },
		"Join of one":    func(l ...api.Row) api.Row { return Join(l[0]) },
		"Join with none": func(l ...api.Row) api.Row { return Join(nil, l[0], nil) },
		"Join of none":   func(l ...api.Row) api.Row { return Join(l[0][:0]) },
		"Join of two":    func(l ...api.Row) api.Row { return Join(l[0], l[1]) },
		"Join of parts":  func(l ...api.Row) api.Row { return Join(l[0][:2], l[0][2:4]) },
	}
	for name, tell := range told {
		x, y := count(5), of(text("a"), text("b"))
		a, b := tell(x, y), tell(x, y)
		before := slices.Clone(b)
		for i := range a {
			a[i] = text("changed")
		}
		_ = append(a, text("more"))
		_ = append(a[:0], text("first"))
		if !slices.Equal(x, count(5)) || !slices.Equal(y, of(text("a"), text("b"))) {
			t.Errorf("%s: what was done to it came to %v, %v", name, x, y)
		}
		clear(x)
		clear(y)
		if !slices.Equal(b, before) {
			t.Errorf("%s: it shares memory: %v, not %v", name, b, before)
		}
	}
}

// Rule 4: no call writes into what it is handed, nor behind its length.
func TestHandedIn(t *testing.T) {
	whole := append(count(5), text("behind"))
	r, kinds, at := whole[:5], []api.Kind{3, 3, 3, 3, 3, 9}, []int{4, 3, 2, 1, 0, 9}
	rows := []api.Row{r, r[1:2], r[2:2]}
	Right(r)
	Compare(r, r[:4])
	Same(r, r[1:])
	Fits(r, kinds[:5]...)
	Pick(r, at[:5]...)
	Join(rows[:2]...)
	Key(r)
	Show(r)
	if !slices.Equal(whole, append(count(5), text("behind"))) || !slices.Equal(kinds, []api.Kind{3, 3, 3, 3, 3, 9}) || !slices.Equal(at, []int{4, 3, 2, 1, 0, 9}) {
		t.Errorf("what was handed in is %v, %v, %v now", whole, kinds, at)
	}
	if !slices.Equal(rows[0], count(5)) || !slices.Equal(rows[1], of(big(1))) || len(rows[2]) != 0 {
		t.Errorf("the rows that were handed in are %v now", rows)
	}
}
