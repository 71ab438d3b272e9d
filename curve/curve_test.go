package curve_test

import (
	"math/big"
	"testing"

	"bailey/api"
	"bailey/curve"
)

// P9.1: the numbers of FIPS 186, and those of another implementation.
func TestNumbers(t *testing.T) {
	for i, want := range []struct{ prime, order, x, y string }{
		{
			"ffffffff 00000001 00000000 00000000 00000000 ffffffff ffffffff ffffffff",
			"ffffffff 00000000 ffffffff ffffffff bce6faad a7179e84 f3b9cac2 fc632551",
			"6b17d1f2 e12c4247 f8bce6e5 63a440f2 77037d81 2deb33a0 f4a13945 d898c296",
			"4fe342e2 fe1a7f9b 8ee7eb4a 7c0f9e16 2bce3357 6b315ece cbb64068 37bf51f5",
		},
		{
			"ffffffff ffffffff ffffffff ffffffff ffffffff ffffffff ffffffff fffffffe ffffffff 00000000 00000000 ffffffff",
			"ffffffff ffffffff ffffffff ffffffff ffffffff ffffffff c7634d81 f4372ddf 581a0db2 48b0a77a ecec196a ccc52973",
			"aa87ca22 be8b0537 8eb1c71e f320ad74 6e1d3b62 8ba79b98 59f741e0 82542a38 5502f25d bf55296c 3a545e38 72760ab7",
			"3617de4a 96262c6f 5d9e98bf 9292dc29 f8f41dbd 289a147c e9da3113 b5f0b8c0 0a60b1ce 1d7e819d 7a431d7c 90ea0e5f",
		},
	} {
		m := models[i]
		sameNat(t, curve.Prime(m.c), fromHex(want.prime), "Prime", m.Name)
		sameNat(t, curve.Prime(m.c), m.P, "Prime", m.Name)
		sameNat(t, curve.Order(m.c), fromHex(want.order), "Order", m.Name)
		sameNat(t, curve.Order(m.c), m.N, "Order", m.Name)
		same(t, curve.Base(m.c), spot{fromHex(want.x), fromHex(want.y)}, "Base", m.Name)
		same(t, curve.Base(m.c), m.base(), "Base", m.Name)
		if got := curve.Size(m.c); got != m.size || got != (m.BitSize+7)/8 {
			t.Fatalf("Size of %s: %d", m.Name, got)
		}
		if !curve.On(m.c, curve.Base(m.c)) {
			t.Fatalf("the base point of %s is off the curve", m.Name)
		}
	}
}

// P9.1 to P9.4: what every call says of numbers that are no curve's.
func TestWrongCurves(t *testing.T) {
	list := []api.Point{{}, {Inf: true}, {X: api.Nat{1}, Y: api.Nat{1}}}
	for _, m := range models {
		list = append(list, m.base().point())
	}
	for _, c := range wrongCurves {
		if n := curve.Prime(c); len(n) != 0 {
			t.Fatalf("Prime of %d: %x", c, n)
		}
		if n := curve.Order(c); len(n) != 0 {
			t.Fatalf("Order of %d: %x", c, n)
		}
		if n := curve.Size(c); n != 0 {
			t.Fatalf("Size of %d: %d", c, n)
		}
		same(t, curve.Base(c), nowhere, "Base", c)
		for _, p := range list {
			if curve.On(c, p) {
				t.Fatalf("On of %d, %v", c, p)
			}
			for _, q := range list {
				got, ok := curve.Add(c, p, q)
				no(t, got, ok, "Add", c, p, q)
			}
			got, ok := curve.Neg(c, p)
			no(t, got, ok, "Neg", c, p)
			for _, k := range []api.Nat{nil, {0}, {1}, {5, 6}, fromBig(power2(4096, 0))} {
				got, ok = curve.Mul(c, k, p)
				no(t, got, ok, "Mul", c, k, p)
			}
			b, ok := curve.Encode(c, p)
			noBytes(t, b, ok, "Encode", c, p)
			empty(t, c, p)
		}
		for _, b := range [][]byte{nil, {}, {0}, {4}, {0, 0}, {4, 0, 0}, models[0].encode(models[0].base()), models[1].encode(models[1].base())} {
			got, ok := curve.Decode(c, b)
			no(t, got, ok, "Decode", c, b)
		}
	}
}

// P9.1: On of points of the curve, however they are written, the point at
// infinity with an X and a Y among them.
func TestOn(t *testing.T) {
	for _, m := range models {
		for _, s := range m.spots() {
			for _, p := range s.ways() {
				if !curve.On(m.c, p) {
					t.Fatalf("%s: %v is off the curve", m.Name, p)
				}
			}
		}
	}
}

// P9.1: On of points that are off the curve: one coordinate off by one, the
// prime and more, and those of the other curve.
func TestOff(t *testing.T) {
	for _, m := range models {
		for _, p := range m.offs() {
			if x, y := toBig(p.X), toBig(p.Y); x.Cmp(m.P) < 0 && y.Cmp(m.P) < 0 && m.other.IsOnCurve(x, y) {
				t.Fatalf("%s: %v is no point for this test", m.Name, p)
			}
			if curve.On(m.c, p) {
				t.Fatalf("%s: %v is on the curve", m.Name, p)
			}
			p.X, p.Y = append(p.X, 0), append(p.Y, 0, 0)
			if curve.On(m.c, p) {
				t.Fatalf("%s: %v is on the curve", m.Name, p)
			}
		}
	}
}

// P9.1: of all y that are squares of the right side, and of no others, On is
// true, for the least and for random x.
func TestOnEverywhere(t *testing.T) {
	for _, m := range models {
		found := 0
		for i := range int64(300) {
			x := big.NewInt(i)
			if i >= 150 {
				x = draw(i, m.P)
			}
			y := draw(1000+i, m.P)
			if got := curve.On(m.c, spot{x, y}.point()); got != m.other.IsOnCurve(x, y) {
				t.Fatalf("%s: On of %v, %v: %v", m.Name, x, y, got)
			}
			for _, s := range m.at(x) {
				found++
				if !curve.On(m.c, s.point()) {
					t.Fatalf("%s: %v is off the curve", m.Name, s)
				}
				if curve.On(m.c, spot{s.x, plus(s.y, 1)}.point()) || curve.On(m.c, spot{s.x, plus(s.y, -1)}.point()) {
					t.Fatalf("%s: a neighbour of %v is on the curve", m.Name, s)
				}
			}
		}
		if found < 200 {
			t.Fatalf("%s: %d points", m.Name, found)
		}
	}
}
