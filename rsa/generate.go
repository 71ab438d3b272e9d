package rsa

import (
	"iter"

	"bailey/api"
	"bailey/drbg"
	"bailey/limb"
	"bailey/modarith"
)

// What a modulus and its primes may be in length, and e, in bits.
const (
	modulusStep     = 64
	minPrimeBits    = 64
	maxPrimeBits    = 2048
	primeStep       = 8
	maxExponentBits = 64
)

// Generate returns a new key of a modulus of so many bits.
func Generate(bits int, e api.Nat, d *drbg.DRBG) (api.RSAKey, api.RV) {
	switch {
	case bits < minBits || bits > api.MaxBits || bits%modulusStep != 0:
		return api.RSAKey{}, api.KeySizeRange
	case !oddExponent(e) || limb.Bits(e) > maxExponentBits || d == nil:
		return api.RSAKey{}, api.ArgumentsBad
	}
	p, q := firstTwo(Primes(bits/2, e, d))
	return fromPrimes(p, q, e), api.OK
}

// firstTwo returns the first of the primes and the next one that differs from
// it. It takes no more of them than that, for each one costs a draw.
func firstTwo(primes iter.Seq[api.Nat]) (first, second api.Nat) {
search:
	for p := range primes {
		switch {
		case len(first) == 0:
			first = p
		case limb.Cmp(p, first) != 0:
			second = p
			break search
		}
	}
	return first, second
}

// fromPrimes returns the key of the primes p and q, which differ, and e, which
// has no common divisor with either less 1.
func fromPrimes(p, q, e api.Nat) api.RSAKey {
	if less(p, q) {
		p, q = q, p
	}
	d, _ := modarith.Inverse(e, orders(p, q))
	return api.RSAKey{N: limb.Mul(p, q), E: limb.Norm(e), D: d, P: p, Q: q}
}

// orders returns the least common multiple of p - 1 and q - 1.
func orders(p, q api.Nat) api.Nat {
	a, _ := limb.Sub(p, one())
	b, _ := limb.Sub(q, one())
	part, _, _ := limb.Quo(a, modarith.Gcd(a, b))
	return limb.Mul(part, b)
}

// Primes returns an endless iterator over primes of so many bits. It draws from
// the generator itself: one that is used again, or nested, goes on from
// wherever the generator is by then.
func Primes(bits int, e api.Nat, d *drbg.DRBG) iter.Seq[api.Nat] {
	if !primesExist(bits, e) || d == nil {
		return func(func(api.Nat) bool) {}
	}
	kept := limb.Norm(e) // the caller may change e before it takes a prime
	return func(yield func(api.Nat) bool) {
		for {
			p, ok := candidate(d.Bytes(bits/8), kept)
			if ok && !yield(p) {
				return
			}
		}
	}
}

// primesExist reports whether Primes has primes of so many bits for e.
func primesExist(bits int, e api.Nat) bool {
	return bits >= minPrimeBits && bits <= maxPrimeBits && bits%primeStep == 0 &&
		limb.Bit(e, 0) == 1 && limb.Bits(e) <= maxExponentBits
}

// candidate returns the prime that the search from what was drawn finds, or
// false if it is longer than that. It changes the drawn bytes.
func candidate(drawn []byte, e api.Nat) (api.Nat, bool) {
	// With both of its highest bits set, the product of two such primes has
	// twice as many bits as they.
	drawn[0] |= 0xc0
	drawn[len(drawn)-1] |= 1
	p, ok := modarith.Next(limb.FromBytes(drawn), e)
	if !ok || limb.Bits(p) > 8*len(drawn) {
		return nil, false
	}
	return p, true
}
