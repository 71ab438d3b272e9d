package curve

import (
	"iter"

	"bailey/api"
	"bailey/limb"
	"bailey/modarith"
)

// Add returns p + q, or false if c is not valid or a point is not on the curve.
func Add(c int, p, q api.Point) (api.Point, bool) {
	d, ok := domainWith(c, p, q)
	if !ok {
		return infinity(), false
	}
	return d.point(d.add(ratiosOf(p), ratiosOf(q))), true
}

// Neg returns -p, or false if c is not valid or p is not on the curve.
func Neg(c int, p api.Point) (api.Point, bool) {
	d, ok := domainWith(c, p)
	if !ok || p.Inf {
		return infinity(), ok
	}
	return api.Point{X: limb.Norm(p.X), Y: field{d.prime}.difference(nil, p.Y)}, true
}

// Mul returns the k-fold of p, or false if c is not valid, p is not on the
// curve or k is too long.
func Mul(c int, k api.Nat, p api.Point) (api.Point, bool) {
	d, ok := domainWith(c, p)
	if !ok || limb.Bits(k) > api.MaxBits {
		return infinity(), false
	}
	// The order-fold of every point is the point at infinity.
	rest, _ := modarith.Mod(k, d.order)
	one, fold := ratiosOf(p), ratiosOf(infinity())
	for _, bit := range limb.Each(rest) {
		fold = d.add(fold, fold)
		if bit == 1 {
			fold = d.add(fold, one)
		}
	}
	return d.point(fold), true
}

// Multiples returns an endless iterator over p, 2p, 3p and so on, which yields
// nothing if c is not valid or p is not on the curve.
func Multiples(c int, p api.Point) iter.Seq[api.Point] {
	d, ok := domainWith(c, p)
	if !ok {
		return func(func(api.Point) bool) {}
	}
	one := ratiosOf(p)
	return func(yield func(api.Point) bool) {
		for fold := one; yield(d.point(fold)); {
			fold = d.add(fold, one)
		}
	}
}
