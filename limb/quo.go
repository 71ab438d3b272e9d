package limb

import (
	"math"
	"math/bits"
	"slices"

	"bailey/api"
)

// Quo returns the quotient and the remainder of a by b, or false if b is 0.
func Quo(a, b api.Nat) (api.Nat, api.Nat, bool) {
	x, y := trim(a), trim(b)
	switch {
	case len(y) == 0:
		return nil, nil, false
	case Cmp(x, y) < 0:
		return nil, Norm(x), true
	case len(y) == 1:
		q, r := shortQuo(x, y[0])
		return q, r, true
	}
	q, r := longQuo(x, y)
	return q, r, true
}

// shortQuo divides by a single limb, for which longQuo's estimate of a digit
// has too few limbs to look at.
func shortQuo(x api.Nat, d uint64) (q, r api.Nat) {
	q = make(api.Nat, len(x))
	var rest uint64
	for i, limb := range slices.Backward(x) {
		q[i], rest = bits.Div64(rest, limb, d)
	}
	return trim(q), Of(rest)
}

// longQuo is algorithm D of Knuth, volume 2, section 4.3.1. Both numbers are
// in normal form, y has two limbs or more, and x is not less than y.
func longQuo(x, y api.Nat) (q, r api.Nat) {
	// An estimate of a digit is good only if the divisor's highest bit is 1.
	shift := bits.LeadingZeros64(y[len(y)-1])
	v := Shl(y, shift)
	u := make(api.Nat, len(x)+1)
	copy(u, Shl(x, shift))
	q = make(api.Nat, len(x)-len(y)+1)
	for j := range slices.Backward(q) {
		q[j] = digit(u[j:j+len(v)+1], v)
	}
	return trim(q), Shr(u, shift)
}

// digit divides u, which has one limb more than v and is less than v * 2^64,
// by v. It returns the quotient and leaves the remainder in u.
func digit(u, v api.Nat) uint64 {
	q := estimate(u, v)
	if subMul(u, v, q) {
		q--
		// The carry takes back the borrow that went out of the last limb.
		u[len(v)], _ = bits.Add64(u[len(v)], addTo(u, v), 0)
	}
	return q
}

// estimate returns the quotient of u by v, or one more than that: it sees
// only the first three limbs of u and the first two of v.
func estimate(u, v api.Nat) uint64 {
	n := len(v)
	if u[n] >= v[n-1] {
		// They are equal, so that u / v is at least 2^64 - 2, and no digit is
		// greater than this one.
		return math.MaxUint64
	}
	q, rest := bits.Div64(u[n], u[n-1], v[n-1])
	var over uint64
	// Once the rest has more than a limb, q * v[n-2] cannot exceed it.
correct:
	for over == 0 {
		high, low := bits.Mul64(q, v[n-2])
		switch {
		case high < rest, high == rest && low <= u[n-2]:
			break correct
		default:
			q--
			rest, over = bits.Add64(rest, v[n-1], 0)
		}
	}
	return q
}

// subMul takes y * d from z, which has one limb more than y, and reports
// whether a borrow went out of it.
func subMul(z, y api.Nat, d uint64) bool {
	var carry, borrow uint64
	for i, limb := range y {
		high, low := bits.Mul64(limb, d)
		sum, c := bits.Add64(low, carry, 0)
		carry = high + c
		z[i], borrow = bits.Sub64(z[i], sum, borrow)
	}
	z[len(y)], borrow = bits.Sub64(z[len(y)], carry, borrow)
	return borrow != 0
}
