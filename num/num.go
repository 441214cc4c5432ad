// Package num is layer 1: see shared/doc/01-num.md.
package num

import "instar/api"

// size is how many bytes an unsigned number has.
const size = 8

// top is the highest of 64 bits.
const top = 1 << 63

// Add is a sum.
func Add(a, b int64) (int64, api.Errno) {
	s := a + b
	// Wrapped round, the sum has the other sign than both.
	if (a < 0) == (b < 0) && (s < 0) != (a < 0) {
		return 0, api.ErrOver
	}
	return s, api.OK
}

// Sub is a difference.
func Sub(a, b int64) (int64, api.Errno) {
	d := a - b
	// Not by Add of a and -b: the least number has no negative, and may still be taken from one below 0.
	if (a < 0) != (b < 0) && (d < 0) != (a < 0) {
		return 0, api.ErrOver
	}
	return d, api.OK
}

// Mul is a product.
func Mul(a, b int64) (int64, api.Errno) {
	switch a {
	case 0:
		return 0, api.OK
	case -1:
		// Dividing by -1 would not tell: the least number divided by it wraps round to itself.
		return Neg(b)
	}
	p := a * b
	if p/a != b {
		return 0, api.ErrOver
	}
	return p, api.OK
}

// Neg is 0 less a number.
func Neg(a int64) (int64, api.Errno) {
	return Sub(0, a)
}

// Narrow is a number of 32 bits.
func Narrow(a int64) (int32, api.Errno) {
	n := int32(a)
	if int64(n) != a {
		return 0, api.ErrNarrow
	}
	return n, api.OK
}

// Zig is a number's zigzag.
func Zig(a int64) uint64 {
	// The shift down spreads the sign over all bits, so that those of a number below 0 are turned.
	return uint64(a<<1) ^ uint64(a>>63)
}

// Zag is the number of a zigzag.
func Zag(a uint64) int64 {
	return int64(a>>1) ^ -int64(a&1)
}

// Flip is a number's flip.
func Flip(a int64) uint64 {
	return uint64(a) ^ top
}

// Unflip is the number of a flip.
func Unflip(a uint64) int64 {
	return int64(a ^ top)
}

// Put is a number's bytes.
func Put(a uint64) string {
	var b [size]byte
	for i := range size {
		b[size-1-i] = byte(a)
		a >>= 8
	}
	return string(b[:])
}

// Get is the number of bytes.
func Get(s string) (uint64, api.Errno) {
	if len(s) != size {
		return 0, api.ErrCode
	}
	var n uint64
	for i := range size {
		n = n<<8 | uint64(s[i])
	}
	return n, api.OK
}
