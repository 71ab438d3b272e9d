package ecdsa_test

import (
	"bytes"
	"crypto/elliptic"
	"crypto/sha1"
	"crypto/sha256"
	"crypto/sha512"
	"encoding/hex"
	"math"
	"math/big"
	"math/rand"
	"strings"
	"testing"

	"bailey/api"
	"bailey/drbg"
)

// model is a curve, with arithmetic that is not the program's.
type model struct {
	c    int
	size int
	*elliptic.CurveParams
	curve elliptic.Curve
}

var models = []model{
	{api.P256, 32, elliptic.P256().Params(), elliptic.P256()},
	{api.P384, 48, elliptic.P384().Params(), elliptic.P384()},
}

// spot is a point of a model; x and y of that at infinity are 0, which no
// curve has a point at.
type spot struct{ x, y *big.Int }

// wrongCurves are some of the numbers that are no curve's.
var wrongCurves = []int{0, -1, -2, 3, 4, 256, 256 + 1, 1<<32 + 1, 1<<32 + 2, 384, math.MinInt, math.MinInt + 1, math.MaxInt}

// fromHex is the number that text says.
func fromHex(text string) *big.Int {
	return new(big.Int).SetBytes(toBytes(text))
}

// toBytes are the bytes that text says.
func toBytes(text string) []byte {
	b, err := hex.DecodeString(strings.ReplaceAll(text, " ", ""))
	if err != nil {
		panic(err)
	}
	return b
}

// toBig is a number's value.
func toBig(a api.Nat) *big.Int {
	z := new(big.Int)
	for i := len(a) - 1; i >= 0; i-- {
		z.Or(z.Lsh(z, 64), new(big.Int).SetUint64(a[i]))
	}
	return z
}

// fromBig is the number with the value of x.
func fromBig(x *big.Int) api.Nat {
	var a api.Nat
	for y, low := new(big.Int).Set(x), new(big.Int).SetUint64(math.MaxUint64); y.Sign() > 0; y.Rsh(y, 64) {
		a = append(a, new(big.Int).And(y, low).Uint64())
	}
	return a
}

// plus is x + n.
func plus(x *big.Int, n int64) *big.Int {
	return new(big.Int).Add(x, big.NewInt(n))
}

// power2 is 2^n + d.
func power2(n uint, d int64) *big.Int {
	return plus(new(big.Int).Lsh(big.NewInt(1), n), d)
}

// some are n bytes that follow from the seed.
func some(seed int64, n int) []byte {
	b := make([]byte, n)
	rand.New(rand.NewSource(seed)).Read(b)
	return b
}

// key is a private key that follows from the seed.
func (m model) key(seed int64) *big.Int {
	return plus(new(big.Int).Rand(rand.New(rand.NewSource(seed)), plus(m.N, -1)), 1)
}

// notKeys are some of the numbers that are no private keys.
func (m model) notKeys() []*big.Int {
	return []*big.Int{
		new(big.Int), m.N, plus(m.N, 1), plus(m.N, 2), m.P, power2(uint(m.BitSize), -1), power2(uint(m.BitSize), 0),
		power2(uint(m.BitSize), 1), new(big.Int).Lsh(m.N, 1), plus(new(big.Int).Lsh(m.N, 1), 1), new(big.Int).Lsh(m.N, 64),
		new(big.Int).Lsh(big.NewInt(1), 64*uint(m.size/8)), power2(4096, -1), power2(4096, 0), power2(4097, 3), power2(70000, 1),
	}
}

// edgeKeys are private keys at the ends of their range, and others.
func (m model) edgeKeys() []*big.Int {
	return []*big.Int{
		big.NewInt(1), big.NewInt(2), big.NewInt(3), plus(m.N, -1), plus(m.N, -2), plus(m.N, -3), power2(64, 0), power2(128, -1),
		power2(uint(m.BitSize-1), 0), new(big.Int).Rsh(m.N, 1), plus(new(big.Int).Rsh(m.N, 1), 1), m.key(1), m.key(2),
	}
}

// long are the ways to write a: with zeros at the end.
func long(a *big.Int) []api.Nat {
	return []api.Nat{fromBig(a), append(fromBig(a), 0), append(fromBig(a), make(api.Nat, 100)...)}
}

// point is s.
func (s spot) point() api.Point {
	if s.x.Sign() == 0 && s.y.Sign() == 0 {
		return api.Point{Inf: true}
	}
	return api.Point{X: fromBig(s.x), Y: fromBig(s.y)}
}

// ways are the ways to write s, which is not at infinity: with zeros at the end
// of the numbers.
func (s spot) ways() []api.Point {
	return []api.Point{s.point(),
		{X: append(fromBig(s.x), 0), Y: fromBig(s.y)},
		{X: fromBig(s.x), Y: append(fromBig(s.y), 0, 0)},
		{X: append(fromBig(s.x), make(api.Nat, 80)...), Y: append(fromBig(s.y), make(api.Nat, 70)...)},
	}
}

// fold is the k-fold of the base point, for any k of at least 0.
func (m model) fold(k *big.Int) spot {
	x, y := m.curve.ScalarBaseMult(new(big.Int).Mod(k, m.N).Bytes())
	return spot{x, y}
}

// mul is the k-fold of s.
func (m model) mul(k *big.Int, s spot) spot {
	x, y := m.curve.ScalarMult(s.x, s.y, new(big.Int).Mod(k, m.N).Bytes())
	return spot{x, y}
}

// add is s + o.
func (m model) add(s, o spot) spot {
	x, y := m.curve.Add(s.x, s.y, o.x, o.y)
	return spot{x, y}
}

// reduce is x modulo the order.
func (m model) reduce(x *big.Int) *big.Int {
	return new(big.Int).Mod(x, m.N)
}

// times is the product of the numbers modulo the order.
func (m model) times(numbers ...*big.Int) *big.Int {
	z := big.NewInt(1)
	for _, x := range numbers {
		z = m.reduce(z.Mul(z, x))
	}
	return z
}

// over is a / b modulo the order.
func (m model) over(a, b *big.Int) *big.Int {
	return m.times(a, new(big.Int).ModInverse(b, m.N))
}

// minus is -a modulo the order.
func (m model) minus(a *big.Int) *big.Int {
	return m.reduce(new(big.Int).Neg(a))
}

// bytes are the numbers in Size bytes each.
func (m model) bytes(numbers ...*big.Int) []byte {
	var b []byte
	for _, x := range numbers {
		b = append(b, x.FillBytes(make([]byte, m.size))...)
	}
	return b
}

// at is a point with this x, or false if there is none.
func (m model) at(x *big.Int) (spot, bool) {
	z := new(big.Int).Exp(x, big.NewInt(3), m.P)
	z.Sub(z, new(big.Int).Mul(big.NewInt(3), x))
	z.Mod(z.Add(z, m.B), m.P)
	y := z.ModSqrt(z, m.P)
	return spot{x, y}, y != nil
}

// from is a point with this x, or the next one, going up or down by the step.
func (m model) from(x *big.Int, step int64) spot {
	for ; ; x = plus(x, step) {
		if s, ok := m.at(x); ok {
			return s
		}
	}
}

// number is the number that a hash stands for, bit by bit.
func (m model) number(hash []byte) *big.Int {
	z := new(big.Int)
	for i := 0; i < 8*len(hash) && i < m.N.BitLen(); i++ {
		z.Lsh(z, 1)
		z.SetBit(z, 0, uint(hash[i/8]>>(7-i%8)&1))
	}
	return z
}

// draw is 1 + Below(n - 1), off the bytes of the tape.
func (m model) draw(tape *drbg.DRBG) *big.Int {
	limit := plus(m.N, -1)
	below := new(big.Int).SetBytes(tape.Bytes((limit.BitLen() + 64 + 7) / 8))
	return plus(below.Mod(below, limit), 1)
}

// sign is the signature of the hash off the tape, and how many k it took.
func (m model) sign(key *big.Int, hash []byte, tape *drbg.DRBG) ([]byte, int) {
	for tries := 1; ; tries++ {
		k := m.draw(tape)
		r := m.reduce(m.fold(k).x)
		s := m.over(new(big.Int).Add(m.times(r, key), m.number(hash)), k)
		if r.Sign() != 0 && s.Sign() != 0 {
			return m.bytes(r, s), tries
		}
	}
}

// offs are points that are not on the curve, or not in the form of one.
func (m model) offs() []api.Point {
	x, y := fromBig(m.Gx), fromBig(m.Gy)
	small := m.from(big.NewInt(1), 1)
	over := fromBig(new(big.Int).Add(small.x, m.P))
	other := models[0]
	if m.c == other.c {
		other = models[1]
	}
	return []api.Point{
		{}, {X: x}, {Y: y}, {X: y, Y: x}, {X: x, Y: x}, {X: x, Y: fromBig(plus(m.Gy, 1))}, {X: fromBig(plus(m.Gx, 1)), Y: y},
		{X: over, Y: fromBig(small.y)}, {X: fromBig(small.x), Y: fromBig(new(big.Int).Add(small.y, m.P))},
		{X: x, Y: fromBig(new(big.Int).Add(m.Gy, m.P))}, {X: fromBig(m.P), Y: fromBig(m.P)}, {X: fromBig(m.N), Y: fromBig(m.N)},
		{X: x, Y: append(fromBig(m.Gy), 0, 1)}, {X: append(fromBig(m.Gx), 1), Y: y},
		{X: fromBig(power2(4096, 0)), Y: y}, {X: x, Y: fromBig(power2(70000, 7))}, {X: fromBig(other.Gx), Y: fromBig(other.Gy)},
	}
}

// nowheres are the ways to write the point at infinity.
func (m model) nowheres() []api.Point {
	g := spot{m.Gx, m.Gy}.point()
	return []api.Point{
		{Inf: true}, {Inf: true, X: g.X, Y: g.Y}, {Inf: true, X: api.Nat{}, Y: api.Nat{0, 0}},
		{Inf: true, X: fromBig(m.P), Y: api.Nat{7}}, {Inf: true, X: fromBig(power2(9000, 5))},
	}
}

// hashes are hashes of text, of every length that SHA has.
func hashes(text string) [][]byte {
	b := []byte(text)
	h1, h224, h256, h384, h512 := sha1.Sum(b), sha256.Sum224(b), sha256.Sum256(b), sha512.Sum384(b), sha512.Sum512(b)
	return [][]byte{h1[:], h224[:], h256[:], h384[:], h512[:]}
}

// same fails the test if a number is not want, in normal form.
func same(t *testing.T, got api.Nat, want *big.Int, what ...any) {
	t.Helper()
	if toBig(got).Cmp(want) != 0 || len(got) > 0 && got[len(got)-1] == 0 {
		t.Fatalf("%v: got %x, want %x", what, got, want)
	}
}

// at fails the test if a point is not want.
func at(t *testing.T, got api.Point, want spot, what ...any) {
	t.Helper()
	if p := want.point(); got.Inf != p.Inf {
		t.Fatalf("%v: got %v, want %v", what, got, p)
	}
	same(t, got.X, want.x, what...)
	same(t, got.Y, want.y, what...)
}

// gives fails the test if a call did not return want and OK.
func gives(t *testing.T, got []byte, rv api.RV, want []byte, what ...any) {
	t.Helper()
	if rv != api.OK || !bytes.Equal(got, want) {
		t.Fatalf("%v: got %x, %d, want %x", what, got, rv, want)
	}
}

// refuses fails the test if a call did not return nil and the error.
func refuses(t *testing.T, got []byte, rv, want api.RV, what ...any) {
	t.Helper()
	if rv != want || got != nil {
		t.Fatalf("%v: got %x, %d, want nil and %d", what, got, rv, want)
	}
}

// took fails the test if the generator is not where its twin is, both in what
// they give and in how often.
func took(t *testing.T, d, twin *drbg.DRBG, what ...any) {
	t.Helper()
	if d.Left() != twin.Left() || !bytes.Equal(d.Bytes(40), twin.Bytes(40)) {
		t.Fatalf("%v: takes something else off the generator", what)
	}
}
