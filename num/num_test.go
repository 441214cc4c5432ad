package num

import (
	"math"
	"math/big"
	"strings"
	"testing"

	"instar/api"
)

// edges are the ends of 64 and of 32 bits with their neighbours, roots of both, and some between.
func edges() []int64 {
	const root = 3037000499 // the greatest number whose square is one
	l := []int64{
		0, 1, 2, 3, 7, 10, 127, 128, 255, 256, 258, 65535, 65536,
		math.MaxInt32 - 1, math.MaxInt32, math.MaxInt32 + 1, math.MaxUint32, math.MaxUint32 + 1,
		root, root + 1, 1 << 61, 1 << 62, 1<<62 - 1, 1<<62 + 1,
		math.MaxInt64 / 2, math.MaxInt64/3 + 1, math.MaxInt64 - 1, math.MaxInt64,
		0x0102030405060708, 0x7f00ff0055aa33cc,
	}
	for _, n := range l[:len(l):len(l)] {
		l = append(l, -n)
	}
	return append(l, math.MinInt32-1, math.MinInt64+1, math.MinInt64)
}

// fitting is what a call must answer whose true result is n.
func fitting(n *big.Int) (int64, api.Errno) {
	if !n.IsInt64() {
		return 0, api.ErrOver
	}
	return n.Int64(), api.OK
}

// P1.1: N1, held against numbers without bounds.
func TestSumsAgainstBig(t *testing.T) {
	calls := []struct {
		name string
		call func(a, b int64) (int64, api.Errno)
		want func(z, x, y *big.Int) *big.Int
	}{
		{"Add", Add, (*big.Int).Add},
		{"Sub", Sub, (*big.Int).Sub},
		{"Mul", Mul, (*big.Int).Mul},
	}
	for _, c := range calls {
		for _, a := range edges() {
			for _, b := range edges() {
				n, e := c.call(a, b)
				wn, we := fitting(c.want(new(big.Int), big.NewInt(a), big.NewInt(b)))
				if n != wn || e != we {
					t.Errorf("%s(%d, %d): %d %d, not %d %d", c.name, a, b, n, e, wn, we)
				}
			}
		}
	}
}

// P1.1: what is only just a number, and only just none.
func TestSumsAtTheEnds(t *testing.T) {
	const least, most = math.MinInt64, math.MaxInt64
	cases := []struct {
		name string
		call func(a, b int64) (int64, api.Errno)
		a, b int64
		n    int64
		e    api.Errno
	}{
		{"Add", Add, 2, 3, 5, api.OK},
		{"Add", Add, most - 1, 1, most, api.OK},
		{"Add", Add, most, 1, 0, api.ErrOver},
		{"Add", Add, 1, most, 0, api.ErrOver},
		{"Add", Add, most, most, 0, api.ErrOver},
		{"Add", Add, least + 1, -1, least, api.OK},
		{"Add", Add, least, -1, 0, api.ErrOver},
		{"Add", Add, least, least, 0, api.ErrOver},
		{"Add", Add, least, most, -1, api.OK},
		{"Sub", Sub, 2, 3, -1, api.OK},
		{"Sub", Sub, least + 1, 1, least, api.OK},
		{"Sub", Sub, least, 1, 0, api.ErrOver},
		{"Sub", Sub, most - 1, -1, most, api.OK},
		{"Sub", Sub, most, -1, 0, api.ErrOver},
		{"Sub", Sub, -1, least, most, api.OK},
		{"Sub", Sub, 0, least, 0, api.ErrOver},
		{"Sub", Sub, least, least, 0, api.OK},
		{"Sub", Sub, least, most, 0, api.ErrOver},
		{"Sub", Sub, most, least, 0, api.ErrOver},
		{"Mul", Mul, 6, -7, -42, api.OK},
		{"Mul", Mul, 0, least, 0, api.OK},
		{"Mul", Mul, least, 0, 0, api.OK},
		{"Mul", Mul, least, 1, least, api.OK},
		{"Mul", Mul, 1, least, least, api.OK},
		{"Mul", Mul, least, -1, 0, api.ErrOver},
		{"Mul", Mul, -1, least, 0, api.ErrOver},
		{"Mul", Mul, most, -1, least + 1, api.OK},
		{"Mul", Mul, -1, most, least + 1, api.OK},
		{"Mul", Mul, -1 << 62, 2, least, api.OK},
		{"Mul", Mul, 2, -1 << 62, least, api.OK},
		{"Mul", Mul, 1 << 62, 2, 0, api.ErrOver},
		{"Mul", Mul, -1<<62 - 1, 2, 0, api.ErrOver},
		{"Mul", Mul, 1<<62 - 1, 2, most - 1, api.OK},
		{"Mul", Mul, 1 << 32, 1 << 32, 0, api.ErrOver},
		{"Mul", Mul, -1 << 32, 1 << 31, least, api.OK},
		{"Mul", Mul, 1 << 32, 1 << 31, 0, api.ErrOver},
		{"Mul", Mul, least, least, 0, api.ErrOver},
		{"Mul", Mul, least, 2, 0, api.ErrOver},
		{"Mul", Mul, most, most, 0, api.ErrOver},
	}
	for _, c := range cases {
		if n, e := c.call(c.a, c.b); n != c.n || e != c.e {
			t.Errorf("%s(%d, %d): %d %d, not %d %d", c.name, c.a, c.b, n, e, c.n, c.e)
		}
	}
}

// P1.1: 0 less a number.
func TestNeg(t *testing.T) {
	for _, a := range edges() {
		n, e := Neg(a)
		wn, we := fitting(new(big.Int).Neg(big.NewInt(a)))
		if n != wn || e != we {
			t.Errorf("Neg(%d): %d %d, not %d %d", a, n, e, wn, we)
		}
	}
	if n, e := Neg(math.MaxInt64); n != math.MinInt64+1 || e != api.OK {
		t.Errorf("Neg of the greatest: %d %d", n, e)
	}
	if n, e := Neg(math.MinInt64); n != 0 || e != api.ErrOver {
		t.Errorf("Neg of the least: %d %d", n, e)
	}
}

// P1.1: the number of 32 bits.
func TestNarrow(t *testing.T) {
	cases := []struct {
		a int64
		n int32
		e api.Errno
	}{
		{0, 0, api.OK},
		{1, 1, api.OK},
		{-1, -1, api.OK},
		{40000, 40000, api.OK},
		{math.MaxInt32, math.MaxInt32, api.OK},
		{math.MinInt32, math.MinInt32, api.OK},
		{math.MaxInt32 + 1, 0, api.ErrNarrow},
		{math.MinInt32 - 1, 0, api.ErrNarrow},
		{math.MaxUint32, 0, api.ErrNarrow},
		{1 << 32, 0, api.ErrNarrow},
		{1<<32 + 5, 0, api.ErrNarrow},
		{math.MaxInt64, 0, api.ErrNarrow},
		{math.MinInt64, 0, api.ErrNarrow},
	}
	for _, c := range cases {
		if n, e := Narrow(c.a); n != c.n || e != c.e {
			t.Errorf("Narrow(%d): %d %d, not %d %d", c.a, n, e, c.n, c.e)
		}
	}
}

// N2: the zigzag and the flip are those of the section 'Words'.
func TestZigAndFlip(t *testing.T) {
	cases := []struct {
		a         int64
		zig, flip uint64
	}{
		{0, 0, 1 << 63},
		{-1, 1, 1<<63 - 1},
		{1, 2, 1<<63 + 1},
		{-2, 3, 1<<63 - 2},
		{2, 4, 1<<63 + 2},
		{-3, 5, 1<<63 - 3},
		{math.MaxInt32, math.MaxUint32 - 1, 1<<63 + 1<<31 - 1},
		{math.MinInt32, math.MaxUint32, 1<<63 - 1<<31},
		{math.MaxInt64, math.MaxUint64 - 1, math.MaxUint64},
		{math.MinInt64, math.MaxUint64, 0},
	}
	for _, c := range cases {
		if n := Zig(c.a); n != c.zig {
			t.Errorf("Zig(%d): %d, not %d", c.a, n, c.zig)
		}
		if n := Zag(c.zig); n != c.a {
			t.Errorf("Zag(%d): %d, not %d", c.zig, n, c.a)
		}
		if n := Flip(c.a); n != c.flip {
			t.Errorf("Flip(%d): %d, not %d", c.a, n, c.flip)
		}
		if n := Unflip(c.flip); n != c.a {
			t.Errorf("Unflip(%d): %d, not %d", c.flip, n, c.a)
		}
	}
}

// N2: the bytes, the highest first.
func TestPutAndGet(t *testing.T) {
	cases := []struct {
		a uint64
		s string
	}{
		{0, "\x00\x00\x00\x00\x00\x00\x00\x00"},
		{1, "\x00\x00\x00\x00\x00\x00\x00\x01"},
		{255, "\x00\x00\x00\x00\x00\x00\x00\xff"},
		{258, "\x00\x00\x00\x00\x00\x00\x01\x02"},
		{0x0102030405060708, "\x01\x02\x03\x04\x05\x06\x07\x08"},
		{1 << 63, "\x80\x00\x00\x00\x00\x00\x00\x00"},
		{math.MaxUint64, "\xff\xff\xff\xff\xff\xff\xff\xff"},
	}
	for _, c := range cases {
		if s := Put(c.a); s != c.s {
			t.Errorf("Put(%d): %q, not %q", c.a, s, c.s)
		}
		if n, e := Get(c.s); n != c.a || e != api.OK {
			t.Errorf("Get(%q): %d %d, not %d", c.s, n, e, c.a)
		}
	}
}

// N2: what has not eight bytes is no number's.
func TestGetOfOtherLengths(t *testing.T) {
	for _, c := range []string{"\x00", "7", "\xff"} {
		for n := range 20 {
			if n == 8 {
				continue
			}
			s := strings.Repeat(c, n)
			if a, e := Get(s); a != 0 || e != api.ErrCode {
				t.Errorf("Get(%q): %d %d", s, a, e)
			}
		}
	}
	if a, e := Get(strings.Repeat("é", 8)); a != 0 || e != api.ErrCode {
		t.Errorf("Get of eight letters of two bytes each: %d %d", a, e)
	}
	if a, e := Get("éééé"); a != 0xc3a9c3a9c3a9c3a9 || e != api.OK {
		t.Errorf("Get of four letters of two bytes each: %x %d", a, e)
	}
}

// P1.2: there and back, both ways round.
func TestThereAndBack(t *testing.T) {
	for _, a := range edges() {
		if n := Zag(Zig(a)); n != a {
			t.Errorf("Zag of Zig of %d: %d", a, n)
		}
		if n := Unflip(Flip(a)); n != a {
			t.Errorf("Unflip of Flip of %d: %d", a, n)
		}
		u := uint64(a)
		if n := Zig(Zag(u)); n != u {
			t.Errorf("Zig of Zag of %d: %d", u, n)
		}
		if n := Flip(Unflip(u)); n != u {
			t.Errorf("Flip of Unflip of %d: %d", u, n)
		}
		if n, e := Get(Put(u)); n != u || e != api.OK {
			t.Errorf("Get of Put of %d: %d %d", u, n, e)
		}
	}
	for i := range 64 {
		u := uint64(1) << i
		if n, e := Get(Put(u)); n != u || e != api.OK {
			t.Errorf("Get of Put of %d: %d %d", u, n, e)
		}
	}
}

// P1.3: the bytes of flips are in the order of the numbers.
func TestInOrder(t *testing.T) {
	for _, a := range edges() {
		for _, b := range edges() {
			x, y := Put(Flip(a)), Put(Flip(b))
			if (a < b) != (x < y) || (a == b) != (x == y) {
				t.Errorf("%d, %d: %q, %q", a, b, x, y)
			}
		}
	}
}
