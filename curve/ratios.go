package curve

import (
	"bailey/api"
	"bailey/limb"
)

// ratios is the point with the coordinates x/z and y/z, which spares the
// inverse in every sum: the point at infinity if z is 0, and then y is not.
type ratios struct{ x, y, z api.Nat }

// ratiosOf returns p, which is on its curve, in new memory.
func ratiosOf(p api.Point) ratios {
	if p.Inf {
		return ratios{y: limb.Of(1)}
	}
	return ratios{x: limb.Norm(p.X), y: limb.Norm(p.Y), z: limb.Of(1)}
}

// point returns the point that r stands for, in new memory.
func (d domain) point(r ratios) api.Point {
	if limb.Bits(r.z) == 0 {
		return infinity()
	}
	f := field{d.prime}
	i := f.inverse(r.z)
	return api.Point{X: f.product(r.x, i), Y: f.product(r.y, i)}
}

// add returns p + q, by the formulas of Renes, Costello and Batina (Complete
// addition formulas for prime order elliptic curves, 2015). They hold for all
// points of a curve that has none of order 2: for equal ones, for inverse ones
// and for the point at infinity.
func (d domain) add(p, q ratios) ratios {
	f := field{d.prime}
	xx, yy, zz := f.product(p.x, q.x), f.product(p.y, q.y), f.product(p.z, q.z)
	xy := f.cross(p.x, p.y, q.x, q.y)
	xz := f.cross(p.x, p.z, q.x, q.z)
	yz := f.cross(p.y, p.z, q.y, q.z)

	s := f.triple(f.difference(xz, f.product(d.b, zz)))
	t := f.triple(f.difference(xx, zz))
	u := f.triple(f.difference(f.difference(f.product(d.b, xz), xx), f.triple(zz)))
	plus, minus := f.sum(yy, s), f.difference(yy, s)
	return ratios{
		x: f.difference(f.product(xy, plus), f.product(yz, u)),
		y: f.sum(f.product(t, u), f.product(minus, plus)),
		z: f.sum(f.product(yz, minus), f.product(xy, t)),
	}
}
