package code

import (
	"math"
	"slices"
	"strings"
	"testing"

	"instar/api"
	"instar/value"
)

// Short forms of values.
func null() api.Value         { return api.Value{} }
func truth(n int64) api.Value { return api.Value{Kind: api.Bool, N: n} }
func small(n int64) api.Value { return api.Value{Kind: api.Int32, N: n} }
func big(n int64) api.Value   { return api.Value{Kind: api.Int64, N: n} }
func text(s string) api.Value { return api.Value{Kind: api.Text, S: s} }
func long(n int) string       { return strings.Repeat("x", n) }

// row is values as a list.
func row(l ...api.Value) []api.Value { return l }

// values are right ones of all kinds, each below all behind it.
func values() []api.Value {
	return []api.Value{
		null(), truth(0), truth(1),
		small(math.MinInt32), small(math.MinInt32 + 1), small(-1 << 24), small(-65537), small(-256), small(-2), small(-1), small(0), small(1), small(2),
		small(127), small(128), small(255), small(256), small(65535), small(65536), small(1 << 24), small(math.MaxInt32 - 1), small(math.MaxInt32),
		big(math.MinInt64), big(math.MinInt64 + 1), big(math.MinInt32 - 1), big(math.MinInt32), big(-258), big(-1), big(0), big(1),
		big(255), big(256), big(math.MaxInt32), big(math.MaxInt32 + 1), big(1 << 40), big(math.MaxInt64 - 1), big(math.MaxInt64),
		text(""), text("\x00"), text("\x00\x00"), text("\x00\x00\x00"), text("\x00\x01"), text("\x00a"), text("\x00\xff"), text("\x00\xff\x00"), text("\x01"), text("\x01\x00"), text("\x04"), text("'"),
		text("a"), text("a\x00"), text("a\x00\x00"), text("a\x00\x00b"), text("a\x00b"), text("a\x00\xff"), text("a\x01"), text("aa"), text("ab"), text("a\xff"), text("a\xff\x00"), text("b"),
		text(long(199)), text(long(199) + "\x00"), text(long(200)), text("é"), text("\xff"), text("\xff\x00"), text("\xff\x00\x00"), text("\xff\x00\xff"), text("\xff\xff"),
	}
}

// wrongs are values that are not right.
func wrongs() []api.Value {
	return []api.Value{
		{N: 1}, {N: -1}, {S: "a"}, {N: 1, S: "a"}, truth(2), truth(-1), truth(7), truth(256), truth(1 << 32), {Kind: api.Bool, S: "a"}, {Kind: api.Bool, N: 1, S: "\x00"},
		small(math.MaxInt32 + 1), small(math.MinInt32 - 1), small(1 << 32), small(math.MinInt64), {Kind: api.Int32, N: 1, S: "a"}, {Kind: api.Int64, N: 1, S: "a"}, {Kind: api.Int64, S: "\x00"},
		text(long(201)), text(long(1000)), text(strings.Repeat("\x00", 201)), {Kind: api.Text, N: 1}, {Kind: api.Text, N: -1, S: "a"},
		{Kind: 5}, {Kind: 6, N: 1}, {Kind: -1}, {Kind: 255}, {Kind: 256}, {Kind: 257, N: 1}, {Kind: 260, S: "a"}, {Kind: math.MinInt}, {Kind: math.MaxInt},
	}
}

// cases are values, and their bytes as the document's words tell them.
func cases() []struct {
	l []api.Value
	s string
} {
	return []struct {
		l []api.Value
		s string
	}{
		{row(), ""}, {row(null()), "\x00"}, {row(null(), null()), "\x00\x00"}, {row(truth(0)), "\x01\x00"}, {row(truth(1)), "\x01\x01"},
		{row(small(0)), "\x02\x80\x00\x00\x00"}, {row(small(1)), "\x02\x80\x00\x00\x01"}, {row(small(-1)), "\x02\x7f\xff\xff\xff"}, {row(small(258)), "\x02\x80\x00\x01\x02"}, {row(small(0x01020304)), "\x02\x81\x02\x03\x04"},
		{row(small(math.MinInt32)), "\x02\x00\x00\x00\x00"}, {row(small(math.MaxInt32)), "\x02\xff\xff\xff\xff"}, {row(small(-258)), "\x02\x7f\xff\xfe\xfe"},
		{row(big(0)), "\x03\x80\x00\x00\x00\x00\x00\x00\x00"}, {row(big(-1)), "\x03\x7f\xff\xff\xff\xff\xff\xff\xff"}, {row(big(258)), "\x03\x80\x00\x00\x00\x00\x00\x01\x02"}, {row(big(0x0102030405060708)), "\x03\x81\x02\x03\x04\x05\x06\x07\x08"},
		{row(big(math.MinInt64)), "\x03\x00\x00\x00\x00\x00\x00\x00\x00"}, {row(big(math.MaxInt64)), "\x03\xff\xff\xff\xff\xff\xff\xff\xff"}, {row(big(1 << 31)), "\x03\x80\x00\x00\x00\x80\x00\x00\x00"},
		{row(text("")), "\x04\x00\x00"}, {row(text("a")), "\x04a\x00\x00"}, {row(text("a'b")), "\x04a'b\x00\x00"}, {row(text("é")), "\x04\xc3\xa9\x00\x00"}, {row(text("\xff")), "\x04\xff\x00\x00"}, {row(text("\x04\x01")), "\x04\x04\x01\x00\x00"},
		{row(text("\x00")), "\x04\x00\xff\x00\x00"}, {row(text("a\x00")), "\x04a\x00\xff\x00\x00"}, {row(text("\x00a")), "\x04\x00\xffa\x00\x00"}, {row(text("a\x00b")), "\x04a\x00\xffb\x00\x00"}, {row(text("\x00\x00")), "\x04\x00\xff\x00\xff\x00\x00"},
		{row(text("\x00\xff")), "\x04\x00\xff\xff\x00\x00"}, {row(text("\xff\x00")), "\x04\xff\x00\xff\x00\x00"}, {row(text("\x00\xff\x00")), "\x04\x00\xff\xff\x00\xff\x00\x00"},
		{row(text(long(200))), "\x04" + long(200) + "\x00\x00"}, {row(text(strings.Repeat("\x00", 200))), "\x04" + strings.Repeat("\x00\xff", 200) + "\x00\x00"},
		{row(text(""), text("")), "\x04\x00\x00\x04\x00\x00"}, {row(text("a"), text("b")), "\x04a\x00\x00\x04b\x00\x00"}, {row(text("a\x00"), null(), text("")), "\x04a\x00\xff\x00\x00\x00\x04\x00\x00"},
		{row(null(), small(-1), text("a\x00")), "\x00\x02\x7f\xff\xff\xff\x04a\x00\xff\x00\x00"}, {row(truth(1), null(), truth(0)), "\x01\x01\x00\x01\x00"}, {row(text("a"), big(-2)), "\x04a\x00\x00\x03\x7f\xff\xff\xff\xff\xff\xff\xfe"},
	}
}

// none are bytes that are no right values', though some begin with one.
func none() []struct {
	s     string
	first int
} {
	return []struct {
		s     string
		first int
	}{
		{"\x05", 0}, {"\x06", 0}, {"a", 0}, {"\x80", 0}, {"\xff", 0}, {"\x05\x00\x00", 0}, {"\xfe\x00", 0},
		{"\x01", 0}, {"\x01\x02", 0}, {"\x01\x80", 0}, {"\x01\xff", 0}, {"\x01\x07\x00", 0},
		{"\x02", 0}, {"\x02\x00", 0}, {"\x02\x80\x00\x00", 0}, {"\x03", 0}, {"\x03\x80\x00\x00\x00", 0}, {"\x03\x80\x00\x00\x00\x00\x00\x00", 0},
		{"\x04", 0}, {"\x04a", 0}, {"\x04\x00", 0}, {"\x04a\x00", 0}, {"\x04a\x00b", 0}, {"\x04a\x00b\x00\x00", 0}, {"\x04\x00\x01\x00\x00", 0}, {"\x04\x00\xfe\x00\x00", 0}, {"\x04\x00\xff", 0}, {"\x04\x00\xff\x00", 0}, {"\x04a\x00\xff\x00\xff", 0}, {"\x04\xff\xff", 0},
		{"\x04" + long(201) + "\x00\x00", 0}, {"\x04" + strings.Repeat("\x00\xff", 201) + "\x00\x00", 0}, {"\x04" + long(200) + "\x00\xff\x00\x00", 0}, {"\x04" + long(200), 0}, {"\x04" + long(1000), 0},
		{"\x00\x05", 1}, {"\x00\x01", 1}, {"\x01\x00\x01", 2}, {"\x01\x01\x01\x02", 2}, {"\x01\x01\xff", 2}, {"\x02\x80\x00\x00\x00\x80", 5}, {"\x02\x80\x00\x00\x01\x01", 5}, {"\x03\x80\x00\x00\x00\x00\x00\x00\x00\x07", 9},
		{"\x04\x00\x00\xff", 3}, {"\x04a\x00\x00b", 4}, {"\x04a\x00\x00\x04", 4}, {"\x04a\x00\xff\x00\x00\x05", 6}, {"\x04\x00\x00\x04\x00", 3}, {"\x04" + long(200) + "\x00\x00\xff", 203},
	}
}

// P4.1, C1: Encode of right values, and Decode of their bytes.
func TestBytes(t *testing.T) {
	for _, c := range cases() {
		if s, e := Encode(c.l...); s != c.s || e != api.OK {
			t.Errorf("Encode(%v): %q, %d; not %q", c.l, s, e, c.s)
		}
		if l, e := Decode(c.s); !slices.Equal(l, c.l) || e != api.OK {
			t.Errorf("Decode(%q): %v, %d; not %v", c.s, l, e, c.l)
		}
	}
}

// P4.1, C1: Encode, if a value is not right, wherever it stands.
func TestEncodeWrong(t *testing.T) {
	for _, v := range wrongs() {
		for _, l := range [][]api.Value{{v}, {v, small(1)}, {small(1), v}, {null(), v, text("a")}, {v, v}} {
			if s, e := Encode(l...); s != "" || e != api.ErrArg {
				t.Errorf("Encode(%v): %q, %d", l, s, e)
			}
		}
	}
}

// P4.1, C1: Decode and Skip of bytes that are none's, whole or behind a value.
func TestDecodeWrong(t *testing.T) {
	for _, c := range none() {
		if l, e := Decode(c.s); len(l) != 0 || e != api.ErrCode {
			t.Errorf("Decode(%q): %v, %d", c.s, l, e)
		}
		want := api.OK
		if c.first == 0 {
			want = api.ErrCode
		}
		if n, e := Skip(c.s); n != c.first || e != want {
			t.Errorf("Skip(%q): %d, %d; not %d, %d", c.s, n, e, c.first, want)
		}
	}
	if n, e := Skip(""); n != 0 || e != api.ErrCode {
		t.Errorf("Skip of no bytes: %d, %d", n, e)
	}
	for k := 5; k < 256; k++ {
		s := string([]byte{byte(k)}) + "\x00\x00\x00\x00\x00\x00\x00\x00"
		if l, e := Decode(s); len(l) != 0 || e != api.ErrCode {
			t.Errorf("Decode(%q): %v, %d", s, l, e)
		}
		if n, e := Skip(s); n != 0 || e != api.ErrCode {
			t.Errorf("Skip(%q): %d, %d", s, n, e)
		}
	}
}

// P4.1, C1: Skip of a value's bytes, whatever stands behind them; no beginning of them is a value's.
func TestSkip(t *testing.T) {
	for _, v := range values() {
		s, _ := Encode(v)
		for _, more := range []string{"", "\x00", "\x00\x00", "\x01\x01", "\x04a\x00\x00", "\x05", "\xff", "\x00\xff", long(300)} {
			if n, e := Skip(s + more); n != len(s) || e != api.OK {
				t.Errorf("Skip(%q): %d, %d; not %d", s+more, n, e, len(s))
			}
		}
		for i := range len(s) {
			if n, e := Skip(s[:i]); n != 0 || e != api.ErrCode {
				t.Errorf("Skip(%q): %d, %d", s[:i], n, e)
			}
			if l, e := Decode(s[:i]); i > 0 && (len(l) != 0 || e != api.ErrCode) {
				t.Errorf("Decode(%q): %v, %d", s[:i], l, e)
			}
		}
	}
}

// P4.2: bytes of one value, of two, of three and of all are decoded to the values.
func TestThereAndBack(t *testing.T) {
	l := values()
	lists := [][]api.Value{nil, l}
	for i, v := range l {
		for j, w := range l {
			lists = append(lists, row(v, w), row(v, w, l[(i+j)%len(l)]))
		}
		lists = append(lists, row(v))
	}
	for _, l := range lists {
		s, e := Encode(l...)
		if e != api.OK {
			t.Errorf("Encode(%v): %d", l, e)
		}
		if got, e := Decode(s); !slices.Equal(got, l) || e != api.OK {
			t.Errorf("Decode(%q): %v, %d; not %v", s, got, e, l)
		}
	}
}

// P4.2: texts with each byte at each place come back.
func TestEachByte(t *testing.T) {
	for b := range 256 {
		c := string([]byte{byte(b)})
		for _, x := range []string{c, c + c, c + "a", "a" + c, c + "\x00", "\x00" + c, c + "\xff", "\xff" + c, "a" + c + "a", "\x00" + c + "\xff", strings.Repeat(c, 200)} {
			s, e := Encode(text(x))
			if want := "\x04" + strings.ReplaceAll(x, "\x00", "\x00\xff") + "\x00\x00"; s != want || e != api.OK {
				t.Errorf("Encode(%q): %q, %d; not %q", x, s, e, want)
			}
			if l, e := Decode(s); !slices.Equal(l, row(text(x))) || e != api.OK {
				t.Errorf("Decode(%q): %v, %d; not %q", s, l, e, x)
			}
		}
	}
}

// each calls f with all bytes up to six long of an alphabet of eight.
func each(f func(s string)) {
	const alphabet = "\x00\x01\x02\x04\x05a\xfe\xff"
	var more func(s string)
	more = func(s string) {
		f(s)
		for i := 0; i < len(alphabet) && len(s) < 6; i++ {
			more(s + alphabet[i:i+1])
		}
	}
	more("")
}

// P4.2, and C1: of all short bytes, what is decoded has these bytes, and is right; Skip tells the one beginning that is one value's.
func TestBackAndThere(t *testing.T) {
	decoded, refused := 0, 0
	each(func(s string) {
		l, e := Decode(s)
		if e == api.OK {
			decoded++
			if got, f := Encode(l...); got != s || f != api.OK {
				t.Errorf("%q was decoded to %v, and that has %q, %d", s, l, got, f)
			}
		} else if refused++; e != api.ErrCode || len(l) != 0 {
			t.Errorf("Decode(%q): %v, %d", s, l, e)
		}
		want, wantE := 0, api.ErrCode
		for i := range len(s) {
			if l, e := Decode(s[:i+1]); e == api.OK && len(l) == 1 {
				want, wantE = i+1, api.OK
			}
		}
		if n, f := Skip(s); n != want || f != wantE {
			t.Errorf("Skip(%q): %d, %d; not %d, %d", s, n, f, want, wantE)
		}
		if want == 0 && e == api.OK && s != "" {
			t.Errorf("Decode(%q): %v, though no value begins it", s, l)
		}
	})
	if decoded < 1000 || refused < 1000 {
		t.Errorf("%d were decoded, %d refused", decoded, refused)
	}
}

// P4.2: bytes that differ in one place from those of values are none's, or others'.
func TestOtherBytes(t *testing.T) {
	for _, v := range values() {
		s, _ := Encode(v)
		for i := range len(s) {
			for _, b := range []byte{0, 1, 2, 3, 4, 5, 127, 128, 254, 255, s[i] ^ 1, s[i] ^ 128} {
				x := s[:i] + string([]byte{b}) + s[i+1:]
				l, e := Decode(x)
				if e != api.OK && (e != api.ErrCode || len(l) != 0) {
					t.Errorf("Decode(%q): %v, %d", x, l, e)
				}
				if back, f := Encode(l...); e == api.OK && (back != x || f != api.OK) {
					t.Errorf("%q was decoded to %v, and that has %q, %d", x, l, back, f)
				}
				if e == api.OK && slices.Equal(l, row(v)) != (x == s) {
					t.Errorf("Decode(%q): %v", x, l)
				}
			}
		}
	}
}

// P4.3: the bytes of one value are in order as the values are.
func TestInOrder(t *testing.T) {
	l := values()
	for i, a := range l {
		for j, b := range l {
			x, _ := Encode(a)
			y, _ := Encode(b)
			if (x < y) != (i < j) || (x == y) != (i == j) {
				t.Errorf("%v, %v: %q, %q", a, b, x, y)
			}
		}
	}
}

// P4.3: the bytes of values are in order as they are one by one, the shorter first.
func TestListsInOrder(t *testing.T) {
	l := row(null(), truth(0), truth(1), small(-1), small(0), big(-1), big(math.MaxInt64), text(""), text("\x00"), text("a"), text("a\x00"), text("a\x00b"), text("a\x01"), text("b"), text("\xff"))
	lists := [][]api.Value{nil}
	for _, v := range l {
		lists = append(lists, row(v))
		for _, w := range l {
			lists = append(lists, row(v, w), row(v, w, null()), row(v, w, text("a")), row(v, null(), w))
		}
	}
	for _, a := range lists {
		for _, b := range lists {
			x, _ := Encode(a...)
			y, _ := Encode(b...)
			if got, want := strings.Compare(x, y), slices.CompareFunc(a, b, value.Compare); got != want {
				t.Errorf("%v, %v: %d, not %d", a, b, got, want)
			}
		}
	}
}

// Rule 4: the values that are handed in stay, and each answer is a list of its own.
func TestOwn(t *testing.T) {
	l := row(text("a\x00"), small(1), null(), text("b"))
	s, _ := Encode(l[:2]...)
	if want := row(text("a\x00"), small(1), null(), text("b")); !slices.Equal(l, want) {
		t.Errorf("Encode changed what was handed in: %v", l)
	}
	a, _ := Decode(s)
	b, _ := Decode(s)
	a[0], a[1] = null(), null()
	_ = append(a[:1], null())
	if !slices.Equal(b, l[:2]) {
		t.Errorf("two answers share memory: %v", b)
	}
}
