package limb

import (
	"iter"
	"math/bits"

	"bailey/api"
)

// maxShift is the greatest shift to the left: it bounds the memory that one
// call can take.
const maxShift = 65536

// Shl returns a * 2^n, or zero if n is out of range.
func Shl(a api.Nat, n int) api.Nat {
	x := trim(a)
	if n < 0 || n > maxShift || len(x) == 0 {
		return nil
	}
	whole, part := n/limbBits, n%limbBits
	z := make(api.Nat, len(x)+whole+1)
	for i, limb := range x {
		z[whole+i] |= limb << part
		z[whole+i+1] = limb >> (limbBits - part)
	}
	return trim(z)
}

// Shr returns a / 2^n, rounded down, or zero if n is out of range.
func Shr(a api.Nat, n int) api.Nat {
	x := trim(a)
	if n < 0 || n/limbBits >= len(x) {
		return nil
	}
	whole, part := n/limbBits, n%limbBits
	z := make(api.Nat, len(x)-whole)
	for i := range z {
		z[i] = x[whole+i] >> part
		if whole+i+1 < len(x) {
			z[i] |= x[whole+i+1] << (limbBits - part)
		}
	}
	return trim(z)
}

// Bits returns the least k with a < 2^k.
func Bits(a api.Nat) int {
	x := trim(a)
	if len(x) == 0 {
		return 0
	}
	return (len(x)-1)*limbBits + bits.Len64(x[len(x)-1])
}

// Bit returns the bit of a with the value 2^i.
func Bit(a api.Nat, i int) uint {
	if i < 0 || i/limbBits >= len(a) {
		return 0
	}
	return uint(a[i/limbBits] >> (i % limbBits) & 1)
}

// Each returns an iterator over the bits of a, the highest first, with their
// exponents. The caller may change a afterwards, so that it goes over a copy.
func Each(a api.Nat) iter.Seq2[int, uint] {
	n := Norm(a)
	return func(yield func(int, uint) bool) {
		for i := Bits(n) - 1; i >= 0; i-- {
			if !yield(i, Bit(n, i)) {
				return
			}
		}
	}
}
