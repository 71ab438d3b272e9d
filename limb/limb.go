// Package limb is the arithmetic of natural numbers of any size (doc/01-limb.md).
//
// Arguments may end in limbs that are 0; results never do.
package limb

import (
	"cmp"
	"math/bits"
	"slices"

	"bailey/api"
)

// limbBits is the number of bits of a limb.
const limbBits = 64

// Of returns n as an api.Nat.
func Of(n uint64) api.Nat {
	return trim(api.Nat{n})
}

// Norm returns a in normal form.
func Norm(a api.Nat) api.Nat {
	return append(api.Nat(nil), trim(a)...)
}

// trim leaves out the limbs at the end that are 0. It copies nothing, so that
// a caller that hands its result out must own n.
func trim(n api.Nat) api.Nat {
	for len(n) > 0 && n[len(n)-1] == 0 {
		n = n[:len(n)-1]
	}
	return n
}

// Cmp returns -1, 0 or 1, as a is less than, equal to or greater than b.
func Cmp(a, b api.Nat) int {
	x, y := trim(a), trim(b)
	if c := cmp.Compare(len(x), len(y)); c != 0 {
		return c
	}
	for i, limb := range slices.Backward(x) {
		if c := cmp.Compare(limb, y[i]); c != 0 {
			return c
		}
	}
	return 0
}

// Add returns a + b.
func Add(a, b api.Nat) api.Nat {
	x, y := trim(a), trim(b)
	if len(x) < len(y) {
		x, y = y, x
	}
	z := make(api.Nat, len(x)+1)
	copy(z, y)
	z[len(x)] = addTo(z, x)
	return trim(z)
}

// addTo adds y to the first len(y) limbs of z and returns the carry out of
// them.
func addTo(z, y api.Nat) uint64 {
	var carry uint64
	for i, limb := range y {
		z[i], carry = bits.Add64(z[i], limb, carry)
	}
	return carry
}

// Sub returns a - b, or false if that is less than 0.
func Sub(a, b api.Nat) (api.Nat, bool) {
	if Cmp(a, b) < 0 {
		return nil, false
	}
	x := trim(a)
	z := make(api.Nat, len(x))
	copy(z, trim(b))
	var borrow uint64
	for i, limb := range x {
		z[i], borrow = bits.Sub64(limb, z[i], borrow)
	}
	return trim(z), true
}

// Mul returns a * b.
func Mul(a, b api.Nat) api.Nat {
	x, y := trim(a), trim(b)
	z := make(api.Nat, len(x)+len(y))
	for i, limb := range x {
		z[i+len(y)] = addMul(z[i:], y, limb)
	}
	return trim(z)
}

// addMul adds y * d to the first len(y) limbs of z and returns the carry out
// of them.
func addMul(z, y api.Nat, d uint64) uint64 {
	var carry uint64
	for i, limb := range y {
		// limb*d + z[i] + carry is at most 2^128 - 1: neither sum of high
		// limbs overflows.
		high, low := bits.Mul64(limb, d)
		sum, c := bits.Add64(low, z[i], 0)
		high += c
		z[i], c = bits.Add64(sum, carry, 0)
		carry = high + c
	}
	return carry
}
