package value

import (
	"math"
	"strings"
	"testing"

	"instar/api"
)

// Short forms of values.
func null() api.Value         { return api.Value{} }
func truth(n int64) api.Value { return api.Value{Kind: api.Bool, N: n} }
func small(n int64) api.Value { return api.Value{Kind: api.Int32, N: n} }
func big(n int64) api.Value   { return api.Value{Kind: api.Int64, N: n} }
func text(s string) api.Value { return api.Value{Kind: api.Text, S: s} }
func of(k api.Kind) api.Value { return api.Value{Kind: k} }
func long(n int) string       { return strings.Repeat("x", n) }
func kinds() []api.Kind       { return []api.Kind{api.Null, api.Bool, api.Int32, api.Int64, api.Text} }
func noKinds() []api.Kind     { return []api.Kind{-1, 5, 6, math.MinInt, math.MaxInt} }
func allKinds() []api.Kind    { return append(kinds(), noKinds()...) }
func isColumn(k api.Kind) bool {
	return k == api.Bool || k == api.Int32 || k == api.Int64 || k == api.Text
}

// numbers are the ends of all kinds, their neighbours, and some between.
func numbers() []int64 {
	return []int64{
		math.MinInt64, math.MinInt64 + 1, -1<<32 - 1, -1 << 32, -1<<32 + 1, math.MinInt32 - 1, math.MinInt32, math.MinInt32 + 1,
		-258, -2, -1, 0, 1, 2, 3, 255, 256,
		math.MaxInt32 - 1, math.MaxInt32, math.MaxInt32 + 1, 1<<32 - 1, 1 << 32, 1<<32 + 1, math.MaxInt64 - 1, math.MaxInt64,
	}
}

// texts are some where one is another one's beginning, and where bytes are not letters.
func texts() []string {
	return []string{"", "\x00", "\x00\x00", "'", "''", "A", "a", "a\x00", "a'b", "aa", "ab", "b", "\x7f", "\x80", "é", "\xff", "\xff\x00", long(199), long(200), long(201), long(1000)}
}

// values are all kinds, with all numbers, and all texts: right ones, and others.
func values() []api.Value {
	var l []api.Value
	for _, k := range allKinds() {
		for _, n := range numbers() {
			l = append(l, api.Value{Kind: k, N: n}, api.Value{Kind: k, N: n, S: "a"})
		}
		for _, s := range texts() {
			l = append(l, api.Value{Kind: k, S: s}, api.Value{Kind: k, N: 1, S: s})
		}
	}
	return l
}

// right says of each kind apart what the document says of it.
func right(v api.Value) bool {
	return v == null() ||
		v == truth(0) || v == truth(1) ||
		v == small(v.N) && -2147483648 <= v.N && v.N <= 2147483647 ||
		v == big(v.N) ||
		v == text(v.S) && len(v.S) <= 200
}

// P3.1, V1: Right.
func TestRight(t *testing.T) {
	for _, v := range []api.Value{
		null(), truth(0), truth(1), small(0), small(-1 << 31), small(1<<31 - 1),
		big(0), big(1 << 31), big(math.MinInt64), big(math.MaxInt64),
		text(""), text("a"), text("'"), text("\x00\xff"), text(long(199)), text(long(200)),
	} {
		if !Right(v) {
			t.Errorf("Right(%v): false", v)
		}
	}
	for _, v := range []api.Value{
		{N: 1}, {N: -1}, {N: math.MinInt64}, {S: "x"}, {N: 1, S: "x"},
		truth(2), truth(-1), truth(math.MinInt64), truth(math.MaxInt64), truth(1 << 32), {Kind: api.Bool, N: 1, S: "x"}, {Kind: api.Bool, S: "x"},
		small(-1<<31 - 1), small(1 << 31), small(1 << 32), small(math.MinInt64), {Kind: api.Int32, S: "x"}, {Kind: api.Int32, N: 5, S: "x"},
		{Kind: api.Int64, S: "x"}, {Kind: api.Int64, N: 5, S: "x"},
		text(long(201)), text(long(1000)), {Kind: api.Text, N: 1}, {Kind: api.Text, N: -1, S: "a"}, {Kind: api.Text, N: 1, S: long(201)},
	} {
		if Right(v) {
			t.Errorf("Right(%v): true", v)
		}
	}
	for _, k := range noKinds() {
		if Right(of(k)) || Right(api.Value{Kind: k, N: 1}) || Right(api.Value{Kind: k, S: "a"}) {
			t.Errorf("Right of the kind %d", k)
		}
	}
	for _, v := range values() {
		if Right(v) != right(v) {
			t.Errorf("Right(%v): %v", v, Right(v))
		}
	}
}

// P3.1, V1: Compare by kinds, then N, then S, whether the values are right or not.
func TestCompare(t *testing.T) {
	// Each is below all behind it.
	l := []api.Value{
		of(math.MinInt), {Kind: -1, N: 9, S: "z"},
		{N: math.MinInt64, S: "z"}, {N: -1, S: "z"}, null(), {S: "a"}, {N: 1},
		truth(-7), truth(0), {Kind: api.Bool, S: "\x00"}, truth(1), truth(2),
		small(math.MinInt64), small(-1 << 31), small(-2), small(-1), small(0), small(1), {Kind: api.Int32, N: 1, S: "a"}, small(256), small(1<<31 - 1), small(1 << 31),
		big(math.MinInt64), big(-1), big(0), big(1), big(1 << 32), big(math.MaxInt64),
		{Kind: api.Text, N: -1, S: "z"},
		text(""), text("\x00"), text("A"), text("Z"), text("a"), text("a\x00"), text("a\x00\x00"), text("aa"), text("ab"), text("b"), text("é"), text("\xff"), text("\xff\xff"),
		{Kind: api.Text, N: 1}, {Kind: api.Text, N: 1, S: "a"},
		of(5), of(6), of(math.MaxInt),
	}
	for i, a := range l {
		for j, b := range l {
			want := 0
			if i < j {
				want = -1
			} else if i > j {
				want = 1
			}
			if c := Compare(a, b); c != want {
				t.Errorf("Compare(%v, %v): %d, not %d", a, b, c, want)
			}
		}
	}
	if Compare(text(long(201)), text(long(200))) != 1 || Compare(text(long(200)), text(long(201))) != -1 {
		t.Error("Compare of long texts")
	}
}

// P3.2: an order of all values: 0 of equal ones alone, turned round it has the other sign, and what is at most another is at most what that one is at most.
func TestOrder(t *testing.T) {
	l := values()
	for _, a := range l {
		for _, b := range l {
			c := Compare(a, b)
			if (c == 0) != (a == b) || c != -Compare(b, a) || c < -1 || c > 1 {
				t.Fatalf("Compare(%v, %v): %d, and %d", a, b, c, Compare(b, a))
			}
		}
	}
	var some []api.Value
	for i := 0; i < len(l); i += 5 {
		some = append(some, l[i])
	}
	for _, a := range some {
		for _, b := range some {
			if Compare(a, b) > 0 {
				continue
			}
			for _, c := range some {
				if Compare(b, c) <= 0 && Compare(a, c) > 0 {
					t.Fatalf("%v, %v, %v are not in order", a, b, c)
				}
			}
		}
	}
}

// P3.1, V1: Fits.
func TestFits(t *testing.T) {
	for _, k := range kinds()[1:] {
		if !Fits(null(), k) || !Fits(of(k), k) {
			t.Errorf("Fits in %d", k)
		}
	}
	for _, f := range []struct {
		v api.Value
		k api.Kind
	}{
		{null(), api.Null}, {truth(1), api.Null}, {null(), -1}, {null(), 5}, {of(5), 5}, {of(-1), -1},
		{truth(1), api.Int32}, {small(1), api.Int64}, {big(1), api.Int32}, {small(1), api.Bool}, {text("1"), api.Int64}, {big(1), api.Text},
		{truth(2), api.Bool}, {small(1 << 31), api.Int32}, {text(long(201)), api.Text}, {api.Value{N: 1}, api.Int32}, {api.Value{S: "a"}, api.Text},
	} {
		if Fits(f.v, f.k) {
			t.Errorf("Fits(%v, %d): true", f.v, f.k)
		}
	}
	for _, v := range values() {
		for _, k := range allKinds() {
			if want := isColumn(k) && right(v) && (v.Kind == k || v.Kind == api.Null); Fits(v, k) != want {
				t.Errorf("Fits(%v, %d): %v", v, k, !want)
			}
		}
	}
}

// P3.1, V1: Wider, of a kind and itself too, and of none but the five.
func TestWider(t *testing.T) {
	want := map[[2]api.Kind]bool{
		{api.Null, api.Null}: true,
		{api.Bool, api.Null}: true, {api.Bool, api.Bool}: true,
		{api.Int32, api.Null}: true, {api.Int32, api.Bool}: true, {api.Int32, api.Int32}: true,
		{api.Int64, api.Null}: true, {api.Int64, api.Bool}: true, {api.Int64, api.Int32}: true, {api.Int64, api.Int64}: true,
		{api.Text, api.Null}: true, {api.Text, api.Text}: true,
	}
	for _, k := range allKinds() {
		for _, than := range allKinds() {
			if Wider(k, than) != want[[2]api.Kind{k, than}] {
				t.Errorf("Wider(%d, %d): %v", k, than, Wider(k, than))
			}
		}
	}
}

// P3.1, V2: Cast, by cases.
func TestCast(t *testing.T) {
	for _, c := range []struct {
		v    api.Value
		k    api.Kind
		want api.Value
		e    api.Errno
	}{
		{null(), api.Bool, null(), api.OK}, {null(), api.Int32, null(), api.OK}, {null(), api.Int64, null(), api.OK}, {null(), api.Text, null(), api.OK},
		{truth(1), api.Bool, truth(1), api.OK}, {small(-5), api.Int32, small(-5), api.OK}, {big(math.MinInt64), api.Int64, big(math.MinInt64), api.OK},
		{text("a'b"), api.Text, text("a'b"), api.OK}, {text(long(200)), api.Text, text(long(200)), api.OK}, {text(""), api.Text, text(""), api.OK},
		{truth(1), api.Int32, small(1), api.OK}, {truth(0), api.Int64, big(0), api.OK}, {small(-1 << 31), api.Int64, big(-1 << 31), api.OK}, {small(1<<31 - 1), api.Int64, big(1<<31 - 1), api.OK},
		{big(-1 << 31), api.Int32, small(-1 << 31), api.OK}, {big(1<<31 - 1), api.Int32, small(1<<31 - 1), api.OK},
		{big(-1<<31 - 1), api.Int32, null(), api.ErrNarrow}, {big(1 << 31), api.Int32, null(), api.ErrNarrow}, {big(1 << 32), api.Int32, null(), api.ErrNarrow},
		{big(1), api.Bool, truth(1), api.OK}, {big(0), api.Bool, truth(0), api.OK}, {small(1), api.Bool, truth(1), api.OK}, {small(0), api.Bool, truth(0), api.OK},
		{big(2), api.Bool, null(), api.ErrNarrow}, {big(-1), api.Bool, null(), api.ErrNarrow}, {big(1 << 32), api.Bool, null(), api.ErrNarrow}, {big(256), api.Bool, null(), api.ErrNarrow},
		{small(2), api.Bool, null(), api.ErrNarrow}, {small(-1), api.Bool, null(), api.ErrNarrow}, {big(math.MinInt64), api.Bool, null(), api.ErrNarrow},
		{text("1"), api.Bool, null(), api.ErrCast}, {text("true"), api.Bool, null(), api.ErrCast}, {text("1"), api.Int32, null(), api.ErrCast}, {text(""), api.Int64, null(), api.ErrCast},
		{truth(1), api.Text, null(), api.ErrCast}, {small(2), api.Text, null(), api.ErrCast}, {big(-1), api.Text, null(), api.ErrCast},
		{truth(1), api.Null, null(), api.ErrArg}, {null(), api.Null, null(), api.ErrArg}, {text("a"), api.Null, null(), api.ErrArg}, {null(), 5, null(), api.ErrArg}, {big(1), -1, null(), api.ErrArg}, {of(5), 5, null(), api.ErrArg},
		{truth(2), api.Bool, null(), api.ErrArg}, {truth(2), api.Int64, null(), api.ErrArg}, {truth(2), api.Text, null(), api.ErrArg}, {small(1 << 31), api.Int64, null(), api.ErrArg}, {small(1 << 31), api.Int32, null(), api.ErrArg},
		{text(long(201)), api.Text, null(), api.ErrArg}, {text(long(201)), api.Int32, null(), api.ErrArg}, {api.Value{N: 1}, api.Int64, null(), api.ErrArg}, {api.Value{S: "a"}, api.Text, null(), api.ErrArg}, {of(-1), api.Int32, null(), api.ErrArg},
	} {
		if v, e := Cast(c.v, c.k); v != c.want || e != c.e {
			t.Errorf("Cast(%v, %d): %v, %d; not %v, %d", c.v, c.k, v, e, c.want, c.e)
		}
	}
}

// cast says what Cast answers, by what is right there.
func cast(v api.Value, k api.Kind) (api.Value, api.Errno) {
	to := api.Value{Kind: k, N: v.N, S: v.S}
	switch {
	case !right(v) || !isColumn(k):
		return null(), api.ErrArg
	case v.Kind == api.Null:
		return null(), api.OK
	case (v.Kind == api.Text) != (k == api.Text):
		return null(), api.ErrCast
	case !right(to):
		return null(), api.ErrNarrow
	}
	return to, api.OK
}

// P3.1, V2: Cast of all values to all kinds.
func TestCastAll(t *testing.T) {
	for _, v := range values() {
		for _, k := range allKinds() {
			want, wantE := cast(v, k)
			if got, e := Cast(v, k); got != want || e != wantE {
				t.Errorf("Cast(%v, %d): %v, %d; not %v, %d", v, k, got, e, want, wantE)
			}
		}
	}
}

// P3.3: what is cast to a wider kind is cast back.
func TestBack(t *testing.T) {
	backs := 0
	for _, v := range values() {
		for _, k := range kinds()[1:] {
			if !Right(v) || !Wider(k, v.Kind) || v.Kind == api.Null {
				continue
			}
			w, e := Cast(v, k)
			if e != api.OK || w.Kind != k || w.N != v.N || w.S != v.S {
				t.Errorf("Cast(%v, %d): %v, %d", v, k, w, e)
			}
			if b, e := Cast(w, v.Kind); b != v || e != api.OK {
				t.Errorf("%v was cast to %v, and back to %v, %d", v, w, b, e)
			}
			backs++
		}
	}
	if backs < 50 {
		t.Errorf("only %d were cast back", backs)
	}
}

// P3.1, V3: Show.
func TestShow(t *testing.T) {
	for _, s := range []struct {
		v    api.Value
		want string
	}{
		{null(), "null"}, {truth(0), "false"}, {truth(1), "true"},
		{small(0), "0"}, {small(7), "7"}, {small(-7), "-7"}, {small(-1 << 31), "-2147483648"}, {small(1<<31 - 1), "2147483647"},
		{big(0), "0"}, {big(-1), "-1"}, {big(100), "100"}, {big(math.MinInt64), "-9223372036854775808"}, {big(math.MaxInt64), "9223372036854775807"},
		{text(""), "''"}, {text("a"), "'a'"}, {text("a'b"), "'a''b'"}, {text("'"), "''''"}, {text("''"), "''''''"}, {text("'a'"), "'''a'''"},
		{text("null"), "'null'"}, {text("\x00\xff\n\\\""), "'\x00\xff\n\\\"'"}, {text(long(200)), "'" + long(200) + "'"}, {text(strings.Repeat("'", 200)), "'" + strings.Repeat("'", 400) + "'"},
		{api.Value{N: 1}, "?"}, {api.Value{S: "a"}, "?"}, {truth(2), "?"}, {truth(-1), "?"}, {small(1 << 31), "?"}, {small(-1<<31 - 1), "?"}, {api.Value{Kind: api.Int64, S: "1"}, "?"},
		{text(long(201)), "?"}, {api.Value{Kind: api.Text, N: 1, S: "a"}, "?"}, {of(5), "?"}, {of(-1), "?"},
	} {
		if got := Show(s.v); got != s.want {
			t.Errorf("Show(%v): %s, not %s", s.v, got, s.want)
		}
	}
	for _, v := range values() {
		if (Show(v) == "?") == right(v) {
			t.Errorf("Show(%v): %s", v, Show(v))
		}
	}
}

// P3.1, V3: Name, and Named.
func TestNames(t *testing.T) {
	for k, want := range []string{"null", "bool", "int32", "int64", "text"} {
		if got := Name(api.Kind(k)); got != want {
			t.Errorf("Name(%d): %s", k, got)
		}
		wantK, wantIs := api.Kind(k), k != 0
		if got, is := Named(want); got != wantK || is != wantIs {
			t.Errorf("Named(%s): %d, %v", want, got, is)
		}
	}
	for _, k := range noKinds() {
		if Name(k) != "" {
			t.Errorf("Name(%d): %s", k, Name(k))
		}
	}
	for _, s := range []string{"", "null", "Null", "Bool", "BOOL", "int", "int16", "int128", "bool ", " bool", "text\x00", "texts", "tex", "string", "?", "0", "1"} {
		if k, is := Named(s); k != api.Null || is {
			t.Errorf("Named(%q): %d, %v", s, k, is)
		}
	}
}
