package curve_test

import (
	"bytes"
	"crypto/elliptic"
	"encoding/hex"
	"math"
	"math/big"
	"math/rand"
	"strings"
	"testing"

	"bailey/api"
)

// model is a curve, with arithmetic that is not the program's.
type model struct {
	c    int
	size int
	*elliptic.CurveParams
	other  elliptic.Curve
	smallY *spot // a point whose Y is 1
}

// spot is a point of a model; x and y of that at infinity are nil.
type spot struct{ x, y *big.Int }

var models = []model{
	{api.P256, 32, elliptic.P256().Params(), elliptic.P256(), &spot{
		fromHex("6916fac45e568b6b9e2e2ecd611b282e5fcc40a3067d601057f879ce5a8a73cc"), big.NewInt(1),
	}},
	{api.P384, 48, elliptic.P384().Params(), elliptic.P384(), &spot{
		fromHex("2261b2bf605c22f2f3aef6338719b2c486388ad5240719a5257315969ef01ba27f0a104c89704773a81fdabee6ab5c78"), big.NewInt(1),
	}},
}

// wrongCurves are some of the numbers that are no curve's.
var wrongCurves = []int{0, -1, -2, 3, 4, 256, 256 + 1, 1<<32 + 1, 1<<32 + 2, 384, math.MinInt, math.MinInt + 1, math.MaxInt}

// String is s in hexadecimal.
func (s spot) String() string {
	if s.x == nil {
		return "infinity"
	}
	return s.x.Text(16) + "," + s.y.Text(16)
}

// nowhere is the point at infinity.
var nowhere spot

// fromHex is the number that text says.
func fromHex(text string) *big.Int {
	x, ok := new(big.Int).SetString(strings.ReplaceAll(text, " ", ""), 16)
	if !ok {
		panic("not a number: " + text)
	}
	return x
}

// toBytes are the bytes that text says.
func toBytes(t *testing.T, text string) []byte {
	t.Helper()
	b, err := hex.DecodeString(strings.ReplaceAll(text, " ", ""))
	if err != nil {
		t.Fatal(err)
	}
	return b
}

// toBig is a number's value.
func toBig(a api.Nat) *big.Int {
	z := new(big.Int)
	for i := len(a) - 1; i >= 0; i-- {
		z.Or(z.Lsh(z, 64), new(big.Int).SetUint64(a[i]))
	}
	return z
}

// fromBig is the number with the value of x.
func fromBig(x *big.Int) api.Nat {
	var a api.Nat
	for y, low := new(big.Int).Set(x), new(big.Int).SetUint64(math.MaxUint64); y.Sign() > 0; y.Rsh(y, 64) {
		a = append(a, new(big.Int).And(y, low).Uint64())
	}
	return a
}

// plus is x + n.
func plus(x *big.Int, n int64) *big.Int {
	return new(big.Int).Add(x, big.NewInt(n))
}

// power2 is 2^n + d.
func power2(n uint, d int64) *big.Int {
	return plus(new(big.Int).Lsh(big.NewInt(1), n), d)
}

// draw is a number less than x that follows from the seed.
func draw(seed int64, x *big.Int) *big.Int {
	return new(big.Int).Rand(rand.New(rand.NewSource(seed)), x)
}

// point is s, as plain as may be.
func (s spot) point() api.Point {
	if s.x == nil {
		return api.Point{Inf: true}
	}
	return api.Point{X: fromBig(s.x), Y: fromBig(s.y)}
}

// ways are the ways to write s: with zeros at the end of the numbers, and with
// numbers beside the point at infinity.
func (s spot) ways() []api.Point {
	p := s.point()
	if s.x != nil {
		return []api.Point{p,
			{X: append(fromBig(s.x), 0), Y: fromBig(s.y)},
			{X: fromBig(s.x), Y: append(fromBig(s.y), 0, 0, 0)},
			{X: append(fromBig(s.x), make(api.Nat, 80)...), Y: append(fromBig(s.y), make(api.Nat, 70)...)},
		}
	}
	g := models[0].base().point()
	return []api.Point{p,
		{Inf: true, X: g.X, Y: g.Y},
		{Inf: true, X: api.Nat{}, Y: api.Nat{0, 0}},
		{Inf: true, X: fromBig(models[0].P), Y: api.Nat{7}},
		{Inf: true, X: fromBig(power2(9000, 5)), Y: fromBig(power2(5000, -1))},
	}
}

// base is the base point.
func (m model) base() spot {
	return spot{m.Gx, m.Gy}
}

// reduce is x modulo the prime.
func (m model) reduce(x *big.Int) *big.Int {
	return new(big.Int).Mod(x, m.P)
}

// right is x^3 - 3x + b.
func (m model) right(x *big.Int) *big.Int {
	z := new(big.Int).Exp(x, big.NewInt(3), m.P)
	z.Sub(z, new(big.Int).Mul(big.NewInt(3), x))
	return m.reduce(z.Add(z, m.B))
}

// at are the two points with this x, or none.
func (m model) at(x *big.Int) []spot {
	y := new(big.Int).ModSqrt(m.right(x), m.P)
	if y == nil {
		return nil
	}
	return []spot{{x, y}, {x, new(big.Int).Sub(m.P, y)}}
}

// neg is -s.
func (m model) neg(s spot) spot {
	if s.x == nil {
		return s
	}
	return spot{s.x, m.reduce(new(big.Int).Neg(s.y))}
}

// add is s + r, by the slope of the line through them.
func (m model) add(s, r spot) spot {
	var up, along *big.Int
	switch {
	case s.x == nil:
		return r
	case r.x == nil:
		return s
	case s.x.Cmp(r.x) != 0:
		up, along = new(big.Int).Sub(r.y, s.y), new(big.Int).Sub(r.x, s.x)
	case s.y.Cmp(r.y) != 0:
		return nowhere
	default:
		square := new(big.Int).Mul(s.x, s.x)
		up = plus(square.Mul(square, big.NewInt(3)), -3)
		along = new(big.Int).Lsh(s.y, 1)
	}
	slope := new(big.Int).Mul(up, new(big.Int).ModInverse(m.reduce(along), m.P))
	x := new(big.Int).Mul(slope, slope)
	x = m.reduce(x.Sub(x, new(big.Int).Add(s.x, r.x)))
	y := new(big.Int).Mul(slope, new(big.Int).Sub(s.x, x))
	return spot{x, m.reduce(y.Sub(y, s.y))}
}

// mul is the k-fold of s.
func (m model) mul(k *big.Int, s spot) spot {
	fold := nowhere
	for i := k.BitLen() - 1; i >= 0; i-- {
		if fold = m.add(fold, fold); k.Bit(i) == 1 {
			fold = m.add(fold, s)
		}
	}
	return fold
}

// encode is the encoding of s.
func (m model) encode(s spot) []byte {
	if s.x == nil {
		return []byte{0}
	}
	b := append([]byte{4}, make([]byte, 2*m.size)...)
	s.x.FillBytes(b[1 : 1+m.size])
	s.y.FillBytes(b[1+m.size:])
	return b
}

// spots are points of the curve: that at infinity, folds of the base point
// and their inverses, points with the least and the greatest x, one with a y
// of 1, and random ones.
func (m model) spots() []spot {
	list := []spot{nowhere, *m.smallY, m.neg(*m.smallY)}
	for _, k := range []int64{1, 2, 3, 5} {
		s := m.mul(big.NewInt(k), m.base())
		list = append(list, s, m.neg(s))
	}
	for seed := range int64(3) {
		list = append(list, m.mul(draw(seed, m.N), m.base()))
	}
	for x, n := new(big.Int), 0; n < 2; x = plus(x, 1) {
		low, high := m.at(x), m.at(new(big.Int).Sub(m.P, plus(x, 1)))
		list = append(list, append(low, high...)...)
		if low != nil {
			n++
		}
	}
	return list
}

// offs are points that are not on the curve.
func (m model) offs() []api.Point {
	g := m.base().point()
	var list []api.Point
	add := func(x, y *big.Int) {
		list = append(list, api.Point{X: fromBig(x), Y: fromBig(y)})
	}
	for _, s := range m.spots() {
		if s.x == nil {
			continue
		}
		add(plus(s.x, 1), s.y)
		add(s.x, plus(s.y, 1))
		if s.x.Sign() > 0 {
			add(plus(s.x, -1), s.y)
		}
		add(s.x, plus(s.y, -1))
		// These satisfy the equation modulo the prime.
		add(new(big.Int).Add(s.x, m.P), s.y)
		add(s.x, new(big.Int).Add(s.y, m.P))
		add(new(big.Int).Add(s.x, m.P), new(big.Int).Add(s.y, m.P))
		// These are the point's if the limbs in front are overlooked.
		add(new(big.Int).Add(s.x, power2(uint(8*m.size), 0)), s.y)
		add(s.x, new(big.Int).Add(s.y, power2(uint(8*m.size), 0)))
		add(s.x, new(big.Int).Add(s.y, power2(8000, 0)))
	}
	for _, other := range models {
		if other.c != m.c {
			list = append(list, other.base().point())
		}
	}
	return append(list, api.Point{}, api.Point{X: api.Nat{}, Y: api.Nat{0}},
		api.Point{X: g.X}, api.Point{Y: g.Y}, api.Point{X: g.Y, Y: g.X},
		api.Point{X: api.Nat{1}, Y: api.Nat{1}},
		api.Point{X: fromBig(m.P)}, api.Point{Y: fromBig(m.P)},
		api.Point{X: fromBig(m.P), Y: fromBig(m.P)},
		api.Point{X: g.X, Y: fromBig(plus(m.P, -1))}, api.Point{X: fromBig(plus(m.P, -1)), Y: fromBig(plus(m.P, -1))},
		api.Point{X: fromBig(power2(70000, 1)), Y: fromBig(power2(70000, -1))},
		api.Point{X: make(api.Nat, 2000), Y: make(api.Nat, 2000)})
}

// sameNat fails the test if got is not want, in normal form.
func sameNat(t *testing.T, got api.Nat, want *big.Int, what ...any) {
	t.Helper()
	if len(got) > 0 && got[len(got)-1] == 0 {
		t.Fatalf("%v: %x is not in normal form", what, got)
	}
	if toBig(got).Cmp(want) != 0 {
		t.Fatalf("%v: got %x, want %x", what, toBig(got), want)
	}
}

// same fails the test if got is not want.
func same(t *testing.T, got api.Point, want spot, what ...any) {
	t.Helper()
	if want.x == nil {
		if !got.Inf || len(got.X) != 0 || len(got.Y) != 0 {
			t.Fatalf("%v: got %v, want the point at infinity", what, got)
		}
		return
	}
	if got.Inf {
		t.Fatalf("%v: got the point at infinity, want %v", what, want)
	}
	sameNat(t, got.X, want.x, what...)
	sameNat(t, got.Y, want.y, what...)
}

// yes fails the test if a call did not return want and true.
func yes(t *testing.T, got api.Point, ok bool, want spot, what ...any) {
	t.Helper()
	if !ok {
		t.Fatalf("%v is false", what)
	}
	same(t, got, want, what...)
}

// no fails the test if a call did not return the point at infinity and false.
func no(t *testing.T, got api.Point, ok bool, what ...any) {
	t.Helper()
	if ok {
		t.Fatalf("%v: got %v, want false", what, got)
	}
	same(t, got, nowhere, what...)
}

// sameBytes fails the test if a call did not return want and true.
func sameBytes(t *testing.T, got []byte, ok bool, want []byte, what ...any) {
	t.Helper()
	if !ok || !bytes.Equal(got, want) {
		t.Fatalf("%v: got %x, %v, want %x", what, got, ok, want)
	}
}

// noBytes fails the test if a call did not return nil and false.
func noBytes(t *testing.T, got []byte, ok bool, what ...any) {
	t.Helper()
	if ok || got != nil {
		t.Fatalf("%v: got %x, %v, want nil and false", what, got, ok)
	}
}
