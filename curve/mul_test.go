package curve_test

import (
	"math/big"
	"testing"

	"bailey/api"
	"bailey/curve"
)

// P9.2: Mul by small numbers, which is Add over and over.
func TestMulSmall(t *testing.T) {
	for _, m := range models {
		for _, s := range m.spots()[:7] {
			want := nowhere
			for k := range uint64(18) {
				got, ok := curve.Mul(m.c, api.Nat{k}, s.point())
				yes(t, got, ok, want, "Mul", m.Name, k, s)
				want = m.add(want, s)
			}
		}
	}
}

// P9.2: Mul by numbers about the order and its multiples.
func TestMulOrder(t *testing.T) {
	for _, m := range models {
		for _, s := range []spot{m.base(), *m.smallY, nowhere} {
			for times := int64(1); times < 4; times++ {
				k := new(big.Int).Mul(m.N, big.NewInt(times))
				for d, want := range map[int64]spot{
					-2: m.neg(m.add(s, s)), -1: m.neg(s), 0: nowhere, 1: s, 2: m.add(s, s),
				} {
					got, ok := curve.Mul(m.c, fromBig(plus(k, d)), s.point())
					yes(t, got, ok, want, "Mul", m.Name, times, d, s)
				}
			}
			got, ok := curve.Mul(m.c, curve.Order(m.c), s.point())
			yes(t, got, ok, nowhere, "Mul by the order", m.Name, s)
			got, ok = curve.Mul(m.c, fromBig(m.P), s.point())
			yes(t, got, ok, m.mul(m.P, s), "Mul by the prime", m.Name, s)
		}
	}
}

// P9.2: Mul of random numbers and points, against another implementation.
func TestMulAgainstAnother(t *testing.T) {
	for _, m := range models {
		for seed := range int64(25) {
			k, other := draw(seed, m.N), draw(100+seed, m.N)
			x, y := m.other.ScalarBaseMult(k.Bytes())
			got, ok := curve.Mul(m.c, fromBig(k), curve.Base(m.c))
			yes(t, got, ok, spot{x, y}, "Mul", m.Name, k)
			x, y = m.other.ScalarMult(x, y, other.Bytes())
			got, ok = curve.Mul(m.c, fromBig(other), got)
			yes(t, got, ok, spot{x, y}, "Mul", m.Name, k, other)
		}
	}
}

// P9.2: values that are published.
func TestMulPublished(t *testing.T) {
	for _, c := range []struct {
		model
		k, x, y string
	}{
		{models[0], "2",
			"7CF27B188D034F7E8A52380304B51AC3C08969E277F21B35A60B48FC47669978",
			"07775510DB8ED040293D9AC69F7430DBBA7DADE63CE982299E04B79D227873D1"},
		{models[0], "18ebbb95eed0e13", // 112233445566778899
			"339150844EC15234807FE862A86BE77977DBFB3AE3D96F4C22795513AEAAB82F",
			"B1C14DDFDC8EC1B2583F51E85A5EB3A155840F2034730E9B5ADA38B674336A21"},
		{models[1], "2",
			"08D999057BA3D2D969260045C55B97F089025959A6F434D651D207D19FB96E9E4FE0E86EBE0E64F85B96A9C75295DF61",
			"8E80F1FA5B1B3CEDB7BFE8DFFD6DBA74B275D875BC6CC43E904E505F256AB4255FFD43E94D39E22D61501E700A940E80"},
	} {
		got, ok := curve.Mul(c.c, fromBig(fromHex(c.k)), curve.Base(c.c))
		yes(t, got, ok, spot{fromHex(c.x), fromHex(c.y)}, "Mul", c.Name, c.k)
	}
}

// P9.2: Mul by numbers of up to 4,096 bits, with zeros at their end or not, and
// by greater ones.
func TestMulLong(t *testing.T) {
	for _, m := range models {
		g := m.base()
		for _, k := range []*big.Int{
			power2(4096, -1), power2(4095, 0), power2(4095, -1), draw(1, power2(4096, 0)), draw(2, power2(1000, 0)),
			power2(uint(8*m.size), 0), power2(uint(8*m.size), -1),
		} {
			want := m.mul(k, g)
			got, ok := curve.Mul(m.c, fromBig(k), g.point())
			yes(t, got, ok, want, "Mul", m.Name, k)
			for _, zeros := range []int{1, 64, 1000} {
				got, ok := curve.Mul(m.c, append(fromBig(k), make(api.Nat, zeros)...), g.point())
				yes(t, got, ok, want, "Mul", m.Name, k, zeros)
			}
			got, ok = curve.Mul(m.c, fromBig(k), api.Point{Inf: true, X: api.Nat{1}})
			yes(t, got, ok, nowhere, "Mul", m.Name, k)
		}
		for _, k := range []*big.Int{
			power2(4096, 0), power2(4096, 1), power2(4097, -1), power2(4160, 0), power2(100000, 0), new(big.Int).Lsh(m.N, 4096),
		} {
			for _, p := range []api.Point{g.point(), {Inf: true}, {Inf: true, X: api.Nat{1}}, {}} {
				got, ok := curve.Mul(m.c, fromBig(k), p)
				no(t, got, ok, "Mul", m.Name, k.BitLen(), p)
				got, ok = curve.Mul(m.c, append(fromBig(k), 0, 0), p)
				no(t, got, ok, "Mul", m.Name, k.BitLen(), p)
			}
		}
	}
}

// P9.2: Mul by zero, however it is written, and of points that are written in
// other ways.
func TestMulWays(t *testing.T) {
	for _, m := range models {
		for _, s := range []spot{nowhere, m.base(), *m.smallY} {
			for _, p := range s.ways() {
				for _, zero := range []api.Nat{nil, {}, {0}, {0, 0}, make(api.Nat, 100)} {
					got, ok := curve.Mul(m.c, zero, p)
					yes(t, got, ok, nowhere, "Mul", m.Name, zero, p)
				}
				got, ok := curve.Mul(m.c, api.Nat{1, 0}, p)
				yes(t, got, ok, s, "Mul by 1", m.Name, p)
				got, ok = curve.Mul(m.c, api.Nat{11}, p)
				yes(t, got, ok, m.mul(big.NewInt(11), s), "Mul by 11", m.Name, p)
			}
		}
	}
}

// P9.2: Mul of points that are off the curve, by zero too.
func TestMulOff(t *testing.T) {
	for _, m := range models {
		for _, off := range m.offs() {
			for _, k := range []api.Nat{nil, {1}, {2}, fromBig(m.N), fromBig(power2(4096, -1)), fromBig(power2(4096, 0))} {
				got, ok := curve.Mul(m.c, k, off)
				no(t, got, ok, "Mul", m.Name, k, off)
			}
		}
	}
}
