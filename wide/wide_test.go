package wide

import (
	"math"
	"math/big"
	"testing"

	"instar/api"
)

const (
	leastInt, mostInt = math.MinInt64, math.MaxInt64
	allBits           = math.MaxUint64
)

// least and most are the ends of 128 bits.
func least() Wide { return Wide{Hi: leastInt} }
func most() Wide  { return Wide{Hi: mostInt, Lo: allBits} }

// numbers are the ends of 64 and of 32 bits with their neighbours, and some between, of both signs.
func numbers() []int64 {
	l := []int64{
		0, 1, 2, 3, 5, 10, 255, 256,
		math.MaxInt32, math.MaxInt32 + 1, math.MaxUint32, math.MaxUint32 + 1, math.MaxUint32 + 2,
		1<<62 - 1, 1 << 62, 0x0123456789abcdef, 0x7fffffff00000000, 0x7fffffff80000001,
		mostInt - 1, mostInt,
	}
	for _, n := range l[:len(l):len(l)] {
		l = append(l, -n)
	}
	return append(l, leastInt)
}

// halves are 64 bits where carries and signs turn.
func halves() []uint64 {
	return []uint64{
		0, 1, 2, math.MaxUint32, 1 << 32, 0x0123456789abcdef, 0xfedcba9876543210,
		1<<63 - 1, 1 << 63, 1<<63 + 1, allBits - 1, allBits,
	}
}

// wides are all upper halves with all lower ones.
func wides() []Wide {
	var l []Wide
	for _, hi := range halves() {
		for _, lo := range halves() {
			l = append(l, Wide{Hi: int64(hi), Lo: lo})
		}
	}
	return l
}

// counts are the places that shifts turn at, up and down, and the ends of int.
func counts() []int {
	l := []int{0}
	for _, n := range []int{1, 2, 31, 32, 33, 62, 63, 64, 65, 66, 100, 126, 127, 128, 129, 191, 192, 193, 255, 256, 1000, 1 << 30, math.MaxInt} {
		l = append(l, n, -n)
	}
	return append(l, math.MinInt+1, math.MinInt)
}

// exact is a wide number without bounds.
func exact(w Wide) *big.Int {
	n := new(big.Int).Lsh(big.NewInt(w.Hi), 64)
	return n.Add(n, new(big.Int).SetUint64(w.Lo))
}

// round is the wide number that a number without bounds is modulo 2^128.
func round(n *big.Int) Wide {
	mask := new(big.Int).SetUint64(allBits)
	lo := new(big.Int).And(n, mask)
	hi := new(big.Int).Rsh(n, 64)
	return Wide{Hi: int64(hi.And(hi, mask).Uint64()), Lo: lo.Uint64()}
}

// W1: a number as a wide one.
func TestOf(t *testing.T) {
	cases := []struct {
		a int64
		w Wide
	}{
		{0, Wide{}},
		{1, Wide{Lo: 1}},
		{-1, Wide{Hi: -1, Lo: allBits}},
		{-2, Wide{Hi: -1, Lo: allBits - 1}},
		{mostInt, Wide{Lo: 1<<63 - 1}},
		{leastInt, Wide{Hi: -1, Lo: 1 << 63}},
	}
	for _, c := range cases {
		if w := Of(c.a); w != c.w {
			t.Errorf("Of(%d): %v, not %v", c.a, w, c.w)
		}
	}
	for _, a := range numbers() {
		if n := exact(Of(a)); n.Cmp(big.NewInt(a)) != 0 {
			t.Errorf("Of(%d): %d", a, n)
		}
	}
}

// W1: products at the ends of 64 bits.
func TestTimesAtTheEnds(t *testing.T) {
	cases := []struct {
		a, b int64
		w    Wide
	}{
		{6, 7, Of(42)},
		{-6, 7, Of(-42)},
		{6, -7, Of(-42)},
		{-6, -7, Of(42)},
		{0, leastInt, Wide{}},
		{leastInt, 2, Wide{Hi: -1}},
		{2, leastInt, Wide{Hi: -1}},
		{leastInt, 1, Of(leastInt)},
		{leastInt, -1, Wide{Lo: 1 << 63}},
		{leastInt, leastInt, Wide{Hi: 1 << 62}},
		{leastInt, mostInt, Wide{Hi: -1 << 62, Lo: 1 << 63}},
		{mostInt, mostInt, Wide{Hi: 1<<62 - 1, Lo: 1}},
		{mostInt, 2, Wide{Lo: allBits - 1}},
		{mostInt, 4, Wide{Hi: 1, Lo: allBits - 3}},
		{1 << 32, 1 << 32, Wide{Hi: 1}},
		{-1 << 32, 1 << 32, Wide{Hi: -1}},
		{math.MaxUint32, math.MaxUint32, Wide{Lo: 0xfffffffe00000001}},
	}
	for _, c := range cases {
		if w := Times(c.a, c.b); w != c.w {
			t.Errorf("Times(%d, %d): %v, not %v", c.a, c.b, w, c.w)
		}
	}
}

// W1: a product always is a wide number, held against numbers without bounds.
func TestTimesAgainstBig(t *testing.T) {
	for _, a := range numbers() {
		for _, b := range numbers() {
			want := new(big.Int).Mul(big.NewInt(a), big.NewInt(b))
			if n := exact(Times(a, b)); n.Cmp(want) != 0 {
				t.Errorf("Times(%d, %d): %d, not %d", a, b, n, want)
			}
		}
	}
}

// W1: sums that carry, that go round, and that have nothing to add.
func TestAddAtTheEnds(t *testing.T) {
	cases := []struct {
		w    Wide
		x    []Wide
		want Wide
	}{
		{Of(7), nil, Of(7)},
		{least(), []Wide{}, least()},
		{Of(2), []Wide{Of(3)}, Of(5)},
		{Of(-1), []Wide{Of(1), Of(7)}, Of(7)},
		{Of(1), []Wide{Of(2), Of(3), Of(4), Of(-5)}, Of(5)},
		{Wide{Lo: allBits}, []Wide{Of(1)}, Wide{Hi: 1}},
		{Wide{Lo: allBits}, []Wide{{Lo: allBits}}, Wide{Hi: 1, Lo: allBits - 1}},
		{Wide{Lo: 1 << 63}, []Wide{{Lo: 1 << 63}}, Wide{Hi: 1}},
		{Wide{Hi: 1}, []Wide{Of(-1)}, Wide{Lo: allBits}},
		{Of(mostInt), []Wide{Of(mostInt), Of(mostInt)}, Wide{Hi: 1, Lo: 1<<63 - 3}},
		{most(), []Wide{Of(1)}, least()},
		{least(), []Wide{Of(-1)}, most()},
		{most(), []Wide{most()}, Of(-2)},
		{least(), []Wide{least()}, Of(0)},
		{most(), []Wide{Of(1), Of(-1)}, most()},
	}
	for _, c := range cases {
		if w := c.w.Add(c.x...); w != c.want {
			t.Errorf("%v.Add(%v): %v, not %v", c.w, c.x, w, c.want)
		}
	}
	if w := Of(7).Add(); w != Of(7) {
		t.Errorf("Add of none: %v", w)
	}
}

// W1: sums round at 2^128, held against numbers without bounds.
func TestAddAgainstBig(t *testing.T) {
	for _, a := range wides() {
		for _, b := range wides() {
			n := new(big.Int).Add(exact(a), exact(b))
			if w := a.Add(b); w != round(n) {
				t.Errorf("%v.Add(%v): %v, not %v", a, b, w, round(n))
			}
			n.Add(n, exact(b)).Add(n, exact(a))
			if w := a.Add(b, b, a); w != round(n) {
				t.Errorf("%v.Add(%v, %v, %v): %v, not %v", a, b, b, a, w, round(n))
			}
		}
	}
}

// Rule 4: what is handed in stays as it was, behind its length too.
func TestAddLeavesItsArguments(t *testing.T) {
	l := []Wide{Of(1), Of(2), Of(3)}
	if w := Of(0).Add(l[:2]...); w != Of(3) {
		t.Errorf("Add of two of three: %v", w)
	}
	if l[0] != Of(1) || l[1] != Of(2) || l[2] != Of(3) {
		t.Errorf("the list is now %v", l)
	}
}

// W1: 0 less it; of the least one that goes round to itself.
func TestNeg(t *testing.T) {
	cases := []struct{ w, want Wide }{
		{Of(0), Of(0)},
		{Of(3), Of(-3)},
		{Of(-3), Of(3)},
		{Of(leastInt), Wide{Lo: 1 << 63}},
		{Wide{Hi: 1}, Wide{Hi: -1}},
		{Wide{Hi: -1}, Wide{Hi: 1}},
		{Wide{Lo: allBits}, Wide{Hi: -1, Lo: 1}},
		{most(), Wide{Hi: leastInt, Lo: 1}},
		{least(), least()},
	}
	for _, c := range cases {
		if w := c.w.Neg(); w != c.want {
			t.Errorf("%v.Neg(): %v, not %v", c.w, w, c.want)
		}
	}
	for _, w := range wides() {
		if n := w.Neg(); n != round(new(big.Int).Neg(exact(w))) || n.Add(w) != Of(0) {
			t.Errorf("%v.Neg(): %v", w, n)
		}
	}
}

// W2: less, the same, greater; the lower halves, unsigned, tell where the upper ones are the same.
func TestCmp(t *testing.T) {
	cases := []struct {
		w, x Wide
		want int
	}{
		{Of(1), Of(2), -1},
		{Of(2), Of(1), 1},
		{Of(2), Of(2), 0},
		{Of(-1), Of(0), -1},
		{Of(0), Of(-1), 1},
		{Of(-2), Of(-1), -1},
		{Wide{Hi: 1}, Wide{Lo: allBits}, 1},
		{Wide{Hi: -1}, Wide{}, -1},
		{Wide{Hi: 5, Lo: 1<<63 - 1}, Wide{Hi: 5, Lo: 1 << 63}, -1},
		{Wide{Hi: 5, Lo: 1 << 63}, Wide{Hi: 5, Lo: 1<<63 - 1}, 1},
		{Wide{Hi: -5, Lo: 1}, Wide{Hi: -5, Lo: allBits}, -1},
		{Wide{Hi: -5, Lo: allBits}, Wide{Hi: -5, Lo: 0}, 1},
		{Wide{Hi: 3, Lo: 9}, Wide{Hi: 4, Lo: 1}, -1},
		{least(), most(), -1},
		{most(), least(), 1},
		{least(), least(), 0},
		{most(), most(), 0},
	}
	for _, c := range cases {
		if n := c.w.Cmp(c.x); n != c.want {
			t.Errorf("%v.Cmp(%v): %d, not %d", c.w, c.x, n, c.want)
		}
	}
	for _, a := range wides() {
		for _, b := range wides() {
			if n := a.Cmp(b); n != exact(a).Cmp(exact(b)) {
				t.Errorf("%v.Cmp(%v): %d", a, b, n)
			}
		}
	}
}

// W2: bits up and down at the places where halves change, of both signs.
func TestShiftAtTheEnds(t *testing.T) {
	p := Wide{Hi: 0x0123456789abcdef, Lo: 0xfedcba9876543210}
	m := Wide{Hi: -1 << 63, Lo: 1}
	cases := []struct {
		w    Wide
		n    int
		want Wide
	}{
		{p, 0, p},
		{p, 4, Wide{Hi: 0x123456789abcdeff, Lo: 0xedcba98765432100}},
		{p, -4, Wide{Hi: 0x00123456789abcde, Lo: 0xffedcba987654321}},
		{p, 32, Wide{Hi: -0x7654321001234568, Lo: 0x7654321000000000}},
		{m, 0, m},
		{m, 1, Wide{Lo: 2}},
		{m, 63, Wide{Lo: 1 << 63}},
		{m, 64, Wide{Hi: 1}},
		{m, 65, Wide{Hi: 2}},
		{m, 127, Wide{Hi: leastInt}},
		{m, 128, Wide{}},
		{m, 129, Wide{}},
		{m, 192, Wide{}},
		{m, math.MaxInt, Wide{}},
		{m, -1, Wide{Hi: -1 << 62}},
		{m, -63, Wide{Hi: -1}},
		{m, -64, Wide{Hi: -1, Lo: 1 << 63}},
		{m, -65, Wide{Hi: -1, Lo: 3 << 62}},
		{m, -127, Of(-1)},
		{m, -128, Of(-1)},
		{m, -129, Of(-1)},
		{m, -192, Of(-1)},
		{m, math.MinInt, Of(-1)},
		{Wide{Hi: -1}, -1, Of(leastInt)},
		{Of(5), 200, Wide{}},
		{Of(-5), 200, Wide{}},
		{Of(5), -200, Wide{}},
		{Of(-5), -200, Of(-1)},
		{Of(-1), 64, Wide{Hi: -1}},
		{Of(-1), 127, least()},
		{Of(1), 127, least()},
		{most(), -126, Of(1)},
		{most(), -127, Wide{}},
		{most(), -128, Wide{}},
		{most(), math.MinInt, Wide{}},
		{least(), math.MinInt, Of(-1)},
		{least(), math.MinInt + 1, Of(-1)},
	}
	for _, c := range cases {
		if w := c.w.Shift(c.n); w != c.want {
			t.Errorf("%v.Shift(%d): %v, not %v", c.w, c.n, w, c.want)
		}
	}
}

// shifted is what Shift must answer; places beyond 300 are as good as 300, since no bit is left there.
func shifted(w Wide, n int) Wide {
	n = max(-300, min(n, 300))
	if n < 0 {
		return round(new(big.Int).Rsh(exact(w), uint(-n)))
	}
	return round(new(big.Int).Lsh(exact(w), uint(n)))
}

// W2: all places, held against numbers without bounds.
func TestShiftAgainstBig(t *testing.T) {
	places := counts()
	for n := -140; n <= 140; n++ {
		places = append(places, n)
	}
	for _, w := range wides() {
		for _, n := range places {
			if x := w.Shift(n); x != shifted(w, n) {
				t.Errorf("%v.Shift(%d): %v, not %v", w, n, x, shifted(w, n))
			}
		}
	}
}

// W2: the number that it is, or ErrOver and 0.
func TestInt(t *testing.T) {
	cases := []struct {
		w Wide
		n int64
		e api.Errno
	}{
		{Of(0), 0, api.OK},
		{Of(42), 42, api.OK},
		{Of(-42), -42, api.OK},
		{Of(mostInt), mostInt, api.OK},
		{Of(leastInt), leastInt, api.OK},
		{Of(mostInt).Add(Of(1)), 0, api.ErrOver},
		{Of(leastInt).Add(Of(-1)), 0, api.ErrOver},
		{Wide{Lo: 1 << 63}, 0, api.ErrOver},
		{Wide{Lo: allBits}, 0, api.ErrOver},
		{Wide{Hi: -1, Lo: 1<<63 - 1}, 0, api.ErrOver},
		{Wide{Hi: -1}, 0, api.ErrOver},
		{Wide{Hi: -1, Lo: 7}, 0, api.ErrOver},
		{Wide{Hi: 1, Lo: 7}, 0, api.ErrOver},
		{Wide{Hi: 1, Lo: allBits}, 0, api.ErrOver},
		{Wide{Hi: -2, Lo: allBits}, 0, api.ErrOver},
		{least(), 0, api.ErrOver},
		{most(), 0, api.ErrOver},
	}
	for _, c := range cases {
		if n, e := c.w.Int(); n != c.n || e != c.e {
			t.Errorf("%v.Int(): %d %d, not %d %d", c.w, n, e, c.n, c.e)
		}
	}
	for _, a := range numbers() {
		if n, e := Of(a).Int(); n != a || e != api.OK {
			t.Errorf("Int of Of of %d: %d %d", a, n, e)
		}
	}
	for _, w := range wides() {
		n, e := w.Int()
		if b := exact(w); b.IsInt64() != (e == api.OK) || e != api.OK && (n != 0 || e != api.ErrOver) {
			t.Errorf("%v.Int(): %d %d", w, n, e)
		}
	}
}

// P2.2: sums hang on no order, nor on what is put together first.
func TestSumsHangOnNoOrder(t *testing.T) {
	few := []Wide{
		Of(0), Of(1), Of(-1), {Lo: allBits}, {Hi: 1}, {Hi: -1}, Of(mostInt), Of(leastInt),
		least(), most(), {Hi: 0x0123456789abcdef, Lo: 0xfedcba9876543210},
	}
	for _, a := range few {
		for _, b := range few {
			for _, c := range few {
				s := a.Add(b, c)
				for _, o := range []Wide{
					a.Add(c, b), b.Add(a, c), b.Add(c, a), c.Add(a, b), c.Add(b, a),
					a.Add(b).Add(c), a.Add(b.Add(c)), Wide{}.Add(a, b, c),
				} {
					if o != s {
						t.Errorf("%v, %v, %v: %v and %v", a, b, c, s, o)
					}
				}
			}
		}
	}
}

// P2.2: a product is spread over sums (of those that are numbers), whichever side they stand on.
func TestProductsAreSpreadOverSums(t *testing.T) {
	for _, a := range numbers() {
		for _, b := range numbers() {
			if Times(a, b) != Times(b, a) {
				t.Errorf("%d and %d: %v and %v", a, b, Times(a, b), Times(b, a))
			}
			for _, c := range numbers() {
				s, e := Of(b).Add(Of(c)).Int()
				if e != api.OK {
					continue
				}
				if w := Times(a, b).Add(Times(a, c)); w != Times(a, s) || w != Times(s, a) {
					t.Errorf("%d times %d and %d: %v, not %v", a, b, c, w, Times(a, s))
				}
			}
		}
	}
}

// P2.2: of a number's negative, and of its shift, the product is that of the product.
func TestProductsOfNegativesAndShifts(t *testing.T) {
	for _, a := range numbers() {
		for _, b := range numbers() {
			if b != leastInt && Times(a, -b) != Times(a, b).Neg() {
				t.Errorf("%d times %d: %v, not %v", a, -b, Times(a, -b), Times(a, b).Neg())
			}
			if w := Times(a, 2).Add(Times(b, 2)); w != Of(a).Add(Of(b)).Shift(1) {
				t.Errorf("twice %d and %d: %v", a, b, w)
			}
		}
	}
}
