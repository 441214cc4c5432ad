package schema_test

import (
	"math"
	"slices"
	"strings"
	"testing"

	"instar/api"
	"instar/lex"
	"instar/schema"
	"instar/value"
)

// Short forms of columns.
func col(id int, name string, k api.Kind) api.Column {
	return api.Column{ID: id, Name: name, Kind: k}
}
func of(l ...api.Column) schema.Schema { return l }
func long(n int) string                { return strings.Repeat("x", n) }

// The kinds of columns; those that are none, and numbers that are no kind; the language's own names; IDs that may be, and that may not.
var (
	kinds   = []api.Kind{api.Bool, api.Int32, api.Int64, api.Text}
	noKinds = []api.Kind{api.Null, -1, 5, 6, 256, 1 << 32, math.MinInt, math.MaxInt}
	own     = []string{"true", "false", "null", "and", "or", "not", "is"}
	ids     = []int{1, 2, 12, 13, 1 << 31, 1 << 32, math.MaxInt - 1, math.MaxInt}
	noIDs   = []int{0, -1, -2, -1 << 32, math.MinInt + 1, math.MinInt}
)

// names may be one.
func names() []string {
	return []string{"a", "Z", "z", "A", "a1", "a_", "a__1", "b_1", "A0z9_Z", "True", "NULL", "nulls", "anda", "an", "isnot", "true1", "false_", "or0", "is_", "bool", "int32", "text", "create", "table", "filter", "count", "by", long(19), long(20), "x_" + long(18), "x" + strings.Repeat("9", 19)}
}

// noNames may not.
func noNames() []string {
	l := []string{
		"", " ", "\n", "\t ", "_", "_a", "1", "1a", "0", "9z", long(21), "x" + strings.Repeat("9", 20), long(22), long(1 << 16), strings.Repeat(" ", 20) + "a", "a" + strings.Repeat(" ", 1<<16),
		" a", "a ", "\ta", "a\n", " a ", "  b_1", "\r", "a\r", "a\x00", "\x00", "a\v",
		"a b", "a  b", "a a", "a\nb", "a 1", "a,b", "a,", "(a)", "a(", ",", "=", "<=", "a=", "-a", "a-b", "a.b", "a?", "?", "'a'", "''", "'", "'a", "a'", "a'b'", "'a b'", "a\"", "\"a\"",
		"é", "aé", "éa", "\xff", "a\xff", "ａ", "٣", "ß", "a\u00a0", "K" + "\u212a", "not null", "is null", " null", "null ", strings.Repeat("a ", 1<<12),
	}
	return append(l, own...)
}

// ordinary are n columns that are a schema, of all kinds, and of IDs that are not in order.
func ordinary(n int) schema.Schema {
	s := schema.Schema{}
	for i := range n {
		s = append(s, col(300-7*i, string(rune('a'+i)), kinds[i%4]))
	}
	return s
}

// column says whether a kind is a column's.
func column(k api.Kind) bool {
	return k == api.Bool || k == api.Int32 || k == api.Int64 || k == api.Text
}

// nameless says by the bytes of a text, one by one, that it may be no name.
func nameless(s string) bool {
	for i, c := range []byte(s) {
		letter := strings.IndexByte("abcdefghijklmnopqrstuvwxyzABCDEFGHIJKLMNOPQRSTUVWXYZ", c) >= 0
		later := strings.IndexByte("0123456789_", c) >= 0
		if !letter && (i == 0 || !later) {
			return true
		}
	}
	return len(s) < 1 || len(s) > 20 || slices.Contains(own, s)
}

// right says of columns what the document says of a schema, each with each.
func right(s schema.Schema) bool {
	for i, c := range s {
		if c.ID <= 0 || nameless(c.Name) || !column(c.Kind) {
			return false
		}
		for j, d := range s {
			if i != j && (c.ID == d.ID || c.Name == d.Name) {
				return false
			}
		}
	}
	return 1 <= len(s) && len(s) <= 12
}

// told holds what a call told against what it should have: of a list of columns an error is none.
func told(t *testing.T, call string, got schema.Schema, e api.Errno, want schema.Schema, fault api.Errno) {
	t.Helper()
	if !slices.Equal(got, want) || e != fault || fault != api.OK && got != nil {
		t.Errorf("%s: %v, %d; not %v, %d", call, got, e, want, fault)
	}
}

// P12.1, S1: Name, by cases.
func TestName(t *testing.T) {
	for _, s := range names() {
		if !schema.Name(s) {
			t.Errorf("Name(%q): false", s)
		}
	}
	for _, s := range noNames() {
		if schema.Name(s) {
			t.Errorf("Name(%q): true", s[:min(len(s), 50)])
		}
	}
	for n := range 50 {
		if schema.Name(long(n)) != (n >= 1 && n <= 20) {
			t.Errorf("Name of %d bytes", n)
		}
	}
	for _, s := range own {
		for _, like := range []string{strings.ToUpper(s), s + "s", s[1:], s + s, s + "_"} {
			if schema.Name(like) == slices.Contains(own, like) {
				t.Errorf("Name(%q): %v", like, schema.Name(like))
			}
		}
	}
}

// P12.1, S1: Name of each text of up to two bytes, and of up to four of some.
func TestNames(t *testing.T) {
	texts := func(n int, bytes string) []string {
		all, last := []string{""}, []string{""}
		for range n {
			var next []string
			for _, s := range last {
				for i := range len(bytes) {
					next = append(next, s+bytes[i:i+1])
				}
			}
			all, last = append(all, next...), next
		}
		return all
	}
	every := make([]byte, 256)
	for i := range every {
		every[i] = byte(i)
	}
	for _, s := range append(texts(2, string(every)), texts(4, "aisornt9_ ',\n<")...) {
		if schema.Name(s) == nameless(s) {
			t.Fatalf("Name(%q): %v", s, schema.Name(s))
		}
		if l, _, e := lex.Words(s); schema.Name(s) && (e != api.OK || len(l) != 1 || l[0].Kind != lex.Name || lex.Own(s)) {
			t.Fatalf("Name(%q): its words are %v", s, l)
		}
	}
}

// P12.1, S1: Right of as many columns as may be, and of more, and of none.
func TestRightCounts(t *testing.T) {
	var none schema.Schema
	if none.Right() || (schema.Schema{}).Right() || ordinary(3)[:0].Right() {
		t.Error("no columns are a schema")
	}
	for n := range 20 {
		if got := ordinary(n).Right(); got != (1 <= n && n <= 12) {
			t.Errorf("Right of %d columns: %v", n, got)
		}
	}
	// One column too many, whatever it is like.
	for _, c := range []api.Column{ordinary(1)[0], col(1000, "z", api.Bool), {}} {
		if append(ordinary(12), c).Right() {
			t.Errorf("Right of 12 columns, and %v", c)
		}
	}
	if !ordinary(14)[:12].Right() || ordinary(14)[:13].Right() || !ordinary(14)[2:].Right() {
		t.Error("Right looks at what lies behind, or ahead of, the columns")
	}
}

// P12.1, S1: Right where one column is as it may be, or may not, at each place of one to twelve.
func TestRightPlaces(t *testing.T) {
	for _, n := range []int{1, 2, 3, 11, 12} {
		for i := range n {
			with := func(c api.Column) schema.Schema {
				s := ordinary(n)
				s[i] = c
				return s
			}
			was := ordinary(n)[i]
			for _, id := range append(slices.Clone(noIDs), ids...) {
				s := with(col(id, was.Name, was.Kind))
				if s.Right() != (id > 0) {
					t.Errorf("Right(%v): %v", s, s.Right())
				}
			}
			for _, k := range append(slices.Clone(kinds), noKinds...) {
				if s := with(col(was.ID, was.Name, k)); s.Right() != column(k) {
					t.Errorf("Right(%v): %v", s, s.Right())
				}
			}
			for _, name := range noNames() {
				if s := with(col(was.ID, name, was.Kind)); s.Right() {
					t.Errorf("Right(%.200v): true", s)
				}
			}
			for _, name := range names() {
				if s := with(col(was.ID, name, was.Kind)); s.Right() != right(s) || n == 1 && !s.Right() {
					t.Errorf("Right(%v): %v", s, s.Right())
				}
			}
			// One ID, or one name, or one column, twice.
			for j := range n {
				other := ordinary(n)[j]
				for _, c := range []api.Column{col(other.ID, was.Name, was.Kind), col(was.ID, other.Name, was.Kind), other} {
					if s := with(c); s.Right() != (i == j) {
						t.Errorf("Right(%v): %v", s, s.Right())
					}
				}
			}
			if s := with(api.Column{}); s.Right() {
				t.Errorf("Right(%v): true", s)
			}
		}
	}
}

// lists are all lists of up to n of some columns.
func lists(n int, l ...api.Column) []schema.Schema {
	all, last := []schema.Schema{nil}, []schema.Schema{nil}
	for range n {
		var next []schema.Schema
		for _, s := range last {
			for _, c := range l {
				next = append(next, append(slices.Clone(s), c))
			}
		}
		all, last = append(all, next...), next
	}
	return all
}

// some are columns, few of them right ones, of which many have an ID, or a name, in common.
func some() []api.Column {
	return []api.Column{
		col(1, "a", api.Bool), col(1, "b", api.Int32), col(2, "a", api.Text), col(2, "b", api.Int64), col(3, "A", api.Int32), col(math.MaxInt, "c", api.Int64),
		col(0, "a", api.Int32), col(-1, "b", api.Bool), col(4, "and", api.Bool), col(4, "", api.Text), col(1, " a", api.Int64), col(5, "d", api.Null), col(6, "a", 5), {},
	}
}

// P12.1, S1: Right, Find, Kinds and Show of all short lists of some columns, whether they are a schema or not.
func TestLists(t *testing.T) {
	for _, s := range lists(3, some()...) {
		if s.Right() != right(s) {
			t.Fatalf("Right(%v): %v", s, s.Right())
		}
		for _, name := range []string{"a", "A", "b", "c", "d", "and", "", " a", "e"} {
			at, is := 0, false
			for i, c := range slices.Backward(s) {
				if c.Name == name {
					at, is = i, true
				}
			}
			if i, ok := s.Find(name); i != at || ok != is {
				t.Fatalf("Find(%v, %q): %d, %v", s, name, i, ok)
			}
		}
		k, text := s.Kinds(), ""
		for i, c := range s {
			if i >= len(k) || k[i] != c.Kind {
				t.Fatalf("Kinds(%v): %v", s, k)
			}
			text += ", " + c.Name + " " + []string{"null", "bool", "int32", "int64", "text", ""}[c.Kind]
		}
		if len(k) != len(s) || schema.Show(s) != strings.TrimPrefix(text, ", ") {
			t.Fatalf("Kinds(%v): %v; Show: %s", s, k, schema.Show(s))
		}
	}
}

// P12.1, S1: Find.
func TestFind(t *testing.T) {
	var none schema.Schema
	if i, is := none.Find("a"); i != 0 || is {
		t.Errorf("Find in none: %d, %v", i, is)
	}
	if i, is := none.Find(""); i != 0 || is {
		t.Errorf("Find in none: %d, %v", i, is)
	}
	for _, n := range []int{1, 2, 12, 13} {
		s := ordinary(n)
		for i := range n {
			if at, is := s.Find(s[i].Name); at != i || !is {
				t.Errorf("Find(%q): %d, %v", s[i].Name, at, is)
			}
		}
		for _, name := range []string{"z", "", "A", "a ", " a", "aa", "null", string(rune('a' + n)), long(21)} {
			if at, is := s.Find(name); at != 0 || is {
				t.Errorf("Find(%q): %d, %v", name, at, is)
			}
		}
		// Not the columns behind the length.
		if at, is := s[:n-1].Find(s[n-1].Name); at != 0 || is {
			t.Errorf("Find of the column behind: %d, %v", at, is)
		}
	}
	for name, want := range map[string]int{"a": 1, "b": 0, "": 4, "and": 5} {
		s := of(col(1, "b", 1), col(2, "a", 2), col(3, "a", 3), col(4, "b", 4), col(0, "", 0), col(9, "and", 9), col(5, "and", 1))
		if at, is := s.Find(name); at != want || !is {
			t.Errorf("Find(%q): %d, %v", name, at, is)
		}
	}
}

// P12.1, S1: Kinds, and Show.
func TestTells(t *testing.T) {
	for _, c := range []struct {
		s    schema.Schema
		k    []api.Kind
		text string
	}{
		{nil, nil, ""}, {schema.Schema{}, nil, ""},
		{of(col(1, "a", api.Bool)), []api.Kind{1}, "a bool"},
		{of(col(3, "a", api.Int32), col(1, "b", api.Text)), []api.Kind{2, 4}, "a int32, b text"},
		{of(col(1, "b_1", api.Text), col(2, "Z", api.Int64), col(3, "c", api.Int32), col(4, "d", api.Bool)), []api.Kind{4, 3, 2, 1}, "b_1 text, Z int64, c int32, d bool"},
		{of(col(1, "a", api.Int32), col(2, "b", api.Int32)), []api.Kind{2, 2}, "a int32, b int32"},
		// What may be no column is told as it stands.
		{of(col(0, "", api.Null)), []api.Kind{0}, " null"},
		{of(col(1, "a", 5), col(1, "a", -1), col(1, ", ", math.MaxInt)), []api.Kind{5, -1, math.MaxInt}, "a , a , ,  "},
		{ordinary(4)[:2], []api.Kind{1, 2}, "a bool, b int32"},
	} {
		if k := c.s.Kinds(); !slices.Equal(k, c.k) {
			t.Errorf("Kinds(%v): %v", c.s, k)
		}
		if text := schema.Show(c.s); text != c.text {
			t.Errorf("Show(%v): %q, not %q", c.s, text, c.text)
		}
	}
	for _, k := range append(slices.Clone(kinds), noKinds...) {
		if text := schema.Show(of(col(1, "a", k))); text != "a "+value.Name(k) {
			t.Errorf("Show of the kind %d: %q", k, text)
		}
	}
	if text := schema.Show(ordinary(13)); text != "a bool, b int32, c int64, d text, e bool, f int32, g int64, h text, i bool, j int32, k int64, l text, m bool" {
		t.Errorf("Show of 13: %q", text)
	}
}

// P12.1, S1: Alike.
func TestAlike(t *testing.T) {
	like := func(a, b schema.Schema, want bool) {
		t.Helper()
		if schema.Alike(a, b) != want || schema.Alike(b, a) != want {
			t.Errorf("Alike(%v, %v): %v, and %v", a, b, schema.Alike(a, b), schema.Alike(b, a))
		}
	}
	like(nil, nil, true)
	like(nil, schema.Schema{}, true)
	like(nil, of(api.Column{}), false)
	for _, n := range []int{1, 2, 3, 12, 13} {
		s := ordinary(n)
		like(s, ordinary(n), true)
		like(s, ordinary(n+1), false)
		like(s, s[:n-1], false)
		like(s, s[1:], false)
		like(s, ordinary(n + 1)[:n], true)
		for i := range n {
			for _, change := range []struct {
				c    api.Column
				want bool
			}{
				{col(-5, s[i].Name, s[i].Kind), true}, {col(0, s[i].Name, s[i].Kind), true}, {col(s[0].ID, s[i].Name, s[i].Kind), true}, {col(s[i].ID+1000, s[i].Name, s[i].Kind), true},
				{col(s[i].ID, "z", s[i].Kind), false}, {col(s[i].ID, "", s[i].Kind), false}, {col(s[i].ID, strings.ToUpper(s[i].Name), s[i].Kind), false}, {col(s[i].ID, s[i].Name+" ", s[i].Kind), false},
				{col(s[i].ID, s[i].Name, kinds[(i+1)%4]), false}, {col(s[i].ID, s[i].Name, api.Null), false}, {col(s[i].ID, s[i].Name, 5), false}, {col(s[i].ID, s[i].Name, s[i].Kind+1<<32), false},
			} {
				o := ordinary(n)
				o[i] = change.c
				like(s, o, change.want)
			}
		}
	}
	// One by one: not in another order, nor a name with another one's kind.
	a, b := col(1, "a", api.Bool), col(2, "b", api.Text)
	like(of(a, b), of(b, a), false)
	like(of(a, b), of(col(1, "a", api.Text), col(2, "b", api.Bool)), false)
	like(of(a, b), of(col(2, "a", api.Bool), col(1, "b", api.Text)), true)
	// Of what is no schema, too.
	like(of(a, a), of(a, a), true)
	like(of(col(0, "", 9), a), of(col(1, "", 9), a), true)
	like(of(col(0, "", 9)), of(col(0, "", 8)), false)
}
