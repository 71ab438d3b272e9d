package modarith

import (
	"iter"

	"bailey/api"
	"bailey/limb"
)

// maxStart is the greatest length, in bits, of a number from which Next
// searches.
const maxStart = 2048

// few are the witnesses of Few.
var few = [...]uint64{2, 3, 5, 7, 11, 13, 17, 19, 23, 29, 31, 37}

// testable reports whether the Miller-Rabin test is defined for n: whether n
// is odd, greater than 2 and not too long.
func testable(n api.Nat) bool {
	return limb.Bit(n, 0) == 1 && limb.Bits(n) > 1 && !tooLong(n)
}

// Strong reports whether n passes the Miller-Rabin test for the witness w.
func Strong(n, w api.Nat) bool {
	if !testable(n) {
		return equals(n, 2)
	}
	// Not by Mod, for the witness may be longer than a modulus.
	_, base, _ := limb.Quo(w, n)
	if isZero(base) {
		return true
	}
	last, _ := limb.Sub(n, limb.Of(1))
	s := lowZeros(last)
	x, _ := Exp(base, limb.Shr(last, s), n)
	if equals(x, 1) {
		return true
	}
	for range s {
		if limb.Cmp(x, last) == 0 {
			return true
		}
		x, _ = Mul(x, x, n)
	}
	return false
}

// lowZeros returns the exponent of the greatest power of 2 that divides a,
// which is not 0.
func lowZeros(a api.Nat) int {
	s := 0
	for limb.Bit(a, s) == 0 {
		s++
	}
	return s
}

// Probable reports whether n is 2, or is Strong for all witnesses of ws.
func Probable(n api.Nat, ws iter.Seq[api.Nat]) (passed bool) {
	if !testable(n) {
		return equals(n, 2)
	}
	if ws == nil {
		return true
	}
	// The loop panics if ws goes on after it was left, and ws may panic by
	// itself: neither has shown that n passes.
	defer func() {
		if recover() != nil {
			passed = false
		}
	}()
	tested := limb.Norm(n) // ws may change n between two witnesses
	passed = true
witnesses:
	for w := range ws {
		if !Strong(tested, w) {
			passed = false
			break witnesses
		}
	}
	return passed
}

// Few returns an iterator over the primes up to 37.
func Few() iter.Seq[api.Nat] {
	return func(yield func(api.Nat) bool) {
		for _, w := range few {
			if !yield(limb.Of(w)) {
				return
			}
		}
	}
}

// Next returns the least odd p, from n on, that is Probable with the witnesses
// Few and for which 1 is the only common divisor of p - 1 and e, or false if n
// is too long or e is even.
func Next(n, e api.Nat) (api.Nat, bool) {
	if limb.Bits(n) > maxStart || limb.Bit(e, 0) == 0 {
		return nil, false
	}
	p := firstOdd(n)
	for !fits(p, e) {
		p = limb.Add(p, limb.Of(2))
	}
	return p, true
}

// firstOdd returns the least odd number that is greater than 2 and not less
// than n.
func firstOdd(n api.Nat) api.Nat {
	if limb.Bits(n) < 2 {
		return limb.Of(3)
	}
	return limb.Add(n, limb.Of(uint64(1-limb.Bit(n, 0))))
}

// fits reports whether the odd number p is one that Next searches for. What
// takes the least time is asked first.
func fits(p, e api.Nat) bool {
	if hasSmallFactor(p) {
		return false
	}
	less, _ := limb.Sub(p, limb.Of(1))
	return equals(Gcd(less, e), 1) && Probable(p, Few())
}

// hasSmallFactor reports whether p is a multiple of one of the primes of Few,
// and not that prime. Such a p is not Strong for that witness, as all powers
// of it modulo p are multiples of it, and neither 1 nor p - 1 is one. Greater
// primes would not do: a multiple of one may be Strong for all of Few.
func hasSmallFactor(p api.Nat) bool {
	for w := range Few() {
		_, r, _ := limb.Quo(p, w)
		if isZero(r) && limb.Cmp(p, w) != 0 {
			return true
		}
	}
	return false
}
