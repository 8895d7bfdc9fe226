// Package wide reckons with whole numbers of 128 bits, kept as two words.
package wide

import (
	"cmp"
	"math/bits"

	"sheaf/api"
)

// intSpan is how many ints there are below 0: the magnitude of the least int.
const intSpan = 1 << 63

// Of is n as a wide number.
func Of(n int) api.Wide {
	// The shift leaves only n's sign, which fills the upper word.
	return api.Wide{Hi: int64(n) >> 63, Lo: uint64(n)}
}

// Mul is a times b, exactly.
func Mul(a, b int) api.Wide {
	hi, lo := bits.Mul64(uint64(a), uint64(b))
	// A negative factor was taken as 2^64 more than it is, so the product
	// holds the other factor 2^64 times too often.
	if a < 0 {
		hi -= uint64(b)
	}
	if b < 0 {
		hi -= uint64(a)
	}
	return api.Wide{Hi: int64(hi), Lo: lo}
}

// Add is a and b together, round at 2^128.
func Add(a, b api.Wide) api.Wide {
	lo, carry := bits.Add64(a.Lo, b.Lo, 0)
	hi, _ := bits.Add64(uint64(a.Hi), uint64(b.Hi), carry)
	return api.Wide{Hi: int64(hi), Lo: lo}
}

// Cmp is -1, 0 or 1, as a is below, equal to or above b.
func Cmp(a, b api.Wide) int {
	if a.Hi != b.Hi {
		return cmp.Compare(a.Hi, b.Hi)
	}
	// Lo counts upward from Hi times 2^64, for negative numbers too.
	return cmp.Compare(a.Lo, b.Lo)
}

// Int is w and true, if w is an int; else 0 and false.
func Int(w api.Wide) (int, bool) {
	n := int(w.Lo)
	if Of(n) != w {
		return 0, false
	}
	return n, true
}

// Quo is w by d to the nearest whole number, a half to the even one, and true;
// 0 and false, if d isn't above 0 or the quotient is no int.
func Quo(w api.Wide, d int) (int, bool) {
	if d <= 0 {
		return 0, false
	}
	// Halves go to the even one on either side of 0 alike, so the magnitude
	// is rounded and the sign put back.
	hi, lo := magnitude(w)
	q, ok := quoNearest(hi, lo, uint64(d))
	if !ok {
		return 0, false
	}
	return signed(q, w.Hi < 0)
}

// magnitude is how far w is from 0, as two words.
func magnitude(w api.Wide) (hi, lo uint64) {
	if w.Hi >= 0 {
		return uint64(w.Hi), w.Lo
	}
	lo, borrow := bits.Sub64(0, w.Lo, 0)
	hi, _ = bits.Sub64(0, uint64(w.Hi), borrow)
	return hi, lo
}

// quoNearest is hi times 2^64 and lo, by d, half to the even; false, if it is
// beyond every int's magnitude. d is from 1 to 2^63 - 1.
func quoNearest(hi, lo, d uint64) (uint64, bool) {
	if hi >= d {
		return 0, false
	}
	q, r := bits.Div64(hi, lo, d)
	// Asked ahead of rounding, which could carry the greatest q round to 0.
	if q > intSpan {
		return 0, false
	}
	// 2r doesn't go round, as r is below d.
	if 2*r > d || 2*r == d && q%2 == 1 {
		q++
	}
	return q, true
}

// signed is the int of magnitude q, below 0 if negative says so, and true; 0
// and false, if there is none.
func signed(q uint64, negative bool) (int, bool) {
	switch {
	case negative && q <= intSpan:
		// The magnitude of the least int is no int itself, so it is turned
		// round as a word, where it is its own negative.
		return int(-q), true
	case !negative && q < intSpan:
		return int(q), true
	}
	return 0, false
}
