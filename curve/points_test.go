package curve_test

import (
	"math/big"
	"testing"

	"bailey/api"
	"bailey/curve"
)

// P9.2: Add of all pairs: of a point to itself, to its inverse and to the
// point at infinity on either side, of two infinities, and of points that are
// written in other ways.
func TestAdd(t *testing.T) {
	for _, m := range models {
		list := m.spots()
		for _, s := range list {
			for _, r := range list {
				want := m.add(s, r)
				got, ok := curve.Add(m.c, s.point(), r.point())
				yes(t, got, ok, want, "Add", m.Name, s, r)
			}
		}
		for _, s := range list[:6] {
			for _, r := range list[:6] {
				want := m.add(s, r)
				for _, p := range s.ways() {
					for _, q := range r.ways() {
						got, ok := curve.Add(m.c, p, q)
						yes(t, got, ok, want, "Add", m.Name, p, q)
					}
				}
			}
		}
	}
}

// P9.2: Add and Neg of random points, against another implementation.
func TestAddAgainstAnother(t *testing.T) {
	for _, m := range models {
		for seed := range int64(60) {
			px, py := m.other.ScalarBaseMult(draw(2*seed, m.N).Bytes())
			qx, qy := m.other.ScalarBaseMult(draw(2*seed+1, m.N).Bytes())
			p, q := spot{px, py}.point(), spot{qx, qy}.point()
			x, y := m.other.Add(px, py, qx, qy)
			got, ok := curve.Add(m.c, p, q)
			yes(t, got, ok, spot{x, y}, "Add", m.Name, p, q)
			x, y = m.other.Double(px, py)
			got, ok = curve.Add(m.c, p, p)
			yes(t, got, ok, spot{x, y}, "Add", m.Name, p, p)
			got, ok = curve.Neg(m.c, p)
			yes(t, got, ok, spot{px, new(big.Int).Sub(m.P, py)}, "Neg", m.Name, p)
		}
	}
}

// P9.2: the sum of a point and its Neg is the point at infinity.
func TestAddInverse(t *testing.T) {
	for _, m := range models {
		for _, s := range m.spots() {
			for _, p := range s.ways() {
				q, ok := curve.Neg(m.c, p)
				yes(t, q, ok, m.neg(s), "Neg", m.Name, p)
				got, ok := curve.Add(m.c, p, q)
				yes(t, got, ok, nowhere, "Add", m.Name, p, q)
				got, ok = curve.Add(m.c, q, p)
				yes(t, got, ok, nowhere, "Add", m.Name, q, p)
				q, ok = curve.Neg(m.c, q)
				yes(t, q, ok, s, "Neg", m.Name, q)
			}
		}
	}
}

// P9.2: Add and Neg of points that are off the curve.
func TestAddOff(t *testing.T) {
	for _, m := range models {
		g := m.base()
		for _, off := range m.offs() {
			got, ok := curve.Neg(m.c, off)
			no(t, got, ok, "Neg", m.Name, off)
			for _, p := range []api.Point{g.point(), m.neg(g).point(), {Inf: true}, off, {}} {
				got, ok = curve.Add(m.c, p, off)
				no(t, got, ok, "Add", m.Name, p, off)
				got, ok = curve.Add(m.c, off, p)
				no(t, got, ok, "Add", m.Name, off, p)
			}
		}
	}
}
