package ecdsa

import (
	"bailey/api"
	"bailey/curve"
	"bailey/drbg"
	"bailey/limb"
	"bailey/modarith"
)

// Number returns the number that a hash stands for: its leftmost bits, as many
// as the order has, or zero if c is not valid.
func Number(c int, hash []byte) api.Nat {
	// The order of each of the curves has as many bits as a coordinate has.
	return limb.FromBytes(hash[:min(len(hash), curve.Size(c))])
}

// quotient returns a / b modulo the order n, where b is from 1 to n - 1.
func quotient(a, b, n api.Nat) api.Nat {
	inverse, _ := modarith.Inverse(b, n)
	q, _ := modarith.Mul(a, inverse, n)
	return q
}

// numbers returns the r and the s of a signature of z, where x is the
// x-coordinate of the k-fold of the base point and n is the order.
func numbers(n, key, z, k, x api.Nat) [2]api.Nat {
	r, _ := modarith.Mod(x, n)
	return [2]api.Nat{r, quotient(limb.Add(z, limb.Mul(r, key)), k, n)}
}

// Sign returns a signature of the hash, with the first k off the generator of
// which neither number is 0.
func Sign(c int, key api.Nat, hash []byte, d *drbg.DRBG) ([]byte, api.RV) {
	if d == nil || !inRange(c, key) {
		return nil, api.ArgumentsBad
	}
	z := Number(c, hash)
tries:
	for {
		k := draw(c, d)
		fold, _ := Public(c, k)
		var sig []byte
		for _, number := range numbers(curve.Order(c), key, z, k, fold.X) {
			if limb.Bits(number) == 0 {
				continue tries
			}
			b, _ := limb.Bytes(number, curve.Size(c))
			sig = append(sig, b...)
		}
		return sig, api.OK
	}
}

// Verify reports whether sig is a signature of the hash for the public key.
func Verify(c int, pub api.Point, hash, sig []byte) bool {
	size := curve.Size(c)
	if !isPublic(c, pub) || len(sig) != 2*size {
		return false
	}
	r, s := limb.FromBytes(sig[:size]), limb.FromBytes(sig[size:])
	if !inRange(c, r) || !inRange(c, s) {
		return false
	}
	n := curve.Order(c)
	ofBase, _ := curve.Mul(c, quotient(Number(c, hash), s, n), curve.Base(c))
	ofPub, _ := curve.Mul(c, quotient(r, s, n), pub)
	sum, _ := curve.Add(c, ofBase, ofPub)
	x, _ := modarith.Mod(sum.X, n)
	return !sum.Inf && limb.Cmp(x, r) == 0
}
