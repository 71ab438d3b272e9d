package modarith_test

import (
	"math/big"
	"testing"

	"bailey/api"
	"bailey/modarith"
)

// P2.1: Mod, Mul and Exp hold against another arithmetic.
func TestAgainstAnother(t *testing.T) {
	p := newPicker(1)
	for range 5000 {
		a, b, m := p.nat(5), p.nat(5), p.nat(4)
		x, y, z := toBig(a), toBig(b), toBig(m)
		mod, modOK := modarith.Mod(a, m)
		mul, mulOK := modarith.Mul(a, b, m)
		if z.Sign() == 0 {
			no(t, mod, modOK, "Mod", a, m)
			no(t, mul, mulOK, "Mul", a, b, m)
			continue
		}
		yes(t, mod, modOK, new(big.Int).Mod(x, z), "Mod", a, m)
		yes(t, mul, mulOK, new(big.Int).Mod(new(big.Int).Mul(x, y), z), "Mul", a, b, m)
	}
	for range 600 {
		a, e, m := p.nat(4), p.nat(3), append(p.nat(3), p.Uint64()|1)
		exp, ok := modarith.Exp(a, e, m)
		yes(t, exp, ok, new(big.Int).Exp(toBig(a), toBig(e), toBig(m)), "Exp", a, e, m)
	}
}

// P2.1: Mod, Mul and Exp of all small numbers, among them 0^0 and the modulus
// 1.
func TestSmallModuli(t *testing.T) {
	for m := uint64(1); m < 14; m++ {
		for a := range uint64(16) {
			mod, ok := modarith.Mod(small(a), small(m))
			yes(t, mod, ok, new(big.Int).SetUint64(a%m), "Mod", a, m)
			power := 1 % m
			for b := range uint64(16) {
				mul, ok := modarith.Mul(small(a), small(b), small(m))
				yes(t, mul, ok, new(big.Int).SetUint64(a*b%m), "Mul", a, b, m)
				exp, ok := modarith.Exp(small(a), small(b), small(m))
				yes(t, exp, ok, new(big.Int).SetUint64(power), "Exp", a, b, m)
				power = power * a % m
			}
		}
	}
}

// P2.1: the examples of Exp, and 0^0 with limbs that are 0.
func TestExpExamples(t *testing.T) {
	z, ok := modarith.Exp(api.Nat{3}, api.Nat{5}, api.Nat{7})
	yes(t, z, ok, big.NewInt(5), "Exp(3, 5, 7)")
	z, ok = modarith.Exp(nil, nil, api.Nat{1})
	yes(t, z, ok, big.NewInt(0), "Exp(0, 0, 1)")
	z, ok = modarith.Exp(api.Nat{0}, api.Nat{0, 0}, api.Nat{7, 0})
	yes(t, z, ok, big.NewInt(1), "Exp(0, 0, 7)")
	z, ok = modarith.Exp(api.Nat{14}, nil, api.Nat{7})
	yes(t, z, ok, big.NewInt(1), "Exp(14, 0, 7)")
	z, ok = modarith.Exp(api.Nat{1}, api.Nat{1}, nil)
	no(t, z, ok, "Exp(1, 1, 0)")
}

// P2.1: nothing is modulo 0, however that is written.
func TestModuloZero(t *testing.T) {
	for _, m := range []api.Nat{nil, {}, {0}, {0, 0, 0}} {
		for _, a := range []api.Nat{nil, {0}, {1}, {1, 2, 3}} {
			z, ok := modarith.Mod(a, m)
			no(t, z, ok, "Mod", a, m)
			z, ok = modarith.Mul(a, api.Nat{5}, m)
			no(t, z, ok, "Mul", a, m)
			z, ok = modarith.Exp(a, a, m)
			no(t, z, ok, "Exp", a, m)
			z, ok = modarith.Inverse(a, m)
			no(t, z, ok, "Inverse", a, m)
		}
	}
}

// P2.1: an argument may have 4,096 bits, and after them limbs that are 0, but
// no more bits, wherever it stands.
func TestLengths(t *testing.T) {
	long, longer := power2(4096, -1), power2(4096, 0)
	padded := append(append(api.Nat{}, long...), 0, 0, 0)
	one, three := api.Nat{1}, api.Nat{3}
	calls := map[string]func(a api.Nat) (api.Nat, bool){
		"Mod, a":     func(a api.Nat) (api.Nat, bool) { return modarith.Mod(a, three) },
		"Mod, m":     func(a api.Nat) (api.Nat, bool) { return modarith.Mod(three, a) },
		"Mul, a":     func(a api.Nat) (api.Nat, bool) { return modarith.Mul(a, one, three) },
		"Mul, b":     func(a api.Nat) (api.Nat, bool) { return modarith.Mul(one, a, three) },
		"Mul, m":     func(a api.Nat) (api.Nat, bool) { return modarith.Mul(three, three, a) },
		"Exp, a":     func(a api.Nat) (api.Nat, bool) { return modarith.Exp(a, one, three) },
		"Exp, e":     func(a api.Nat) (api.Nat, bool) { return modarith.Exp(one, a, three) },
		"Exp, m":     func(a api.Nat) (api.Nat, bool) { return modarith.Exp(three, three, a) },
		"Inverse, a": func(a api.Nat) (api.Nat, bool) { return modarith.Inverse(a, api.Nat{7}) },
		"Inverse, m": func(a api.Nat) (api.Nat, bool) { return modarith.Inverse(api.Nat{2}, a) },
	}
	for name, call := range calls {
		want, ok := call(long)
		if !ok {
			t.Errorf("%s: 4,096 bits are refused", name)
		}
		z, ok := call(padded)
		yes(t, z, ok, toBig(want), name)
		for _, a := range []api.Nat{longer, power2(4096, 1), append(power2(4096, 1), 0, 0), power2(9000, 1)} {
			z, ok = call(a)
			no(t, z, ok, name)
		}
	}
	z, ok := modarith.Mul(long, long, power2(4095, 1))
	x := toBig(long)
	yes(t, z, ok, x.Mod(x.Mul(x, x), toBig(power2(4095, 1))), "Mul of 4,096 bits")
	z, ok = modarith.Exp(power2(4095, 7), long, power2(4095, 9))
	yes(t, z, ok, new(big.Int).Exp(toBig(power2(4095, 7)), toBig(long), toBig(power2(4095, 9))), "Exp of 4,096 bits")
}

// P2.1: Gcd, of numbers with common divisors, of 0, and of any length.
func TestGcd(t *testing.T) {
	p := newPicker(2)
	gcd := func(a, b api.Nat) {
		t.Helper()
		same(t, modarith.Gcd(a, b), new(big.Int).GCD(nil, nil, toBig(a), toBig(b)), "Gcd", a, b)
	}
	for range 2000 {
		a, b, c := p.nat(4), p.nat(4), p.nat(3)
		gcd(a, b)
		gcd(fromBig(new(big.Int).Mul(toBig(a), toBig(c))), fromBig(new(big.Int).Mul(toBig(b), toBig(c))))
	}
	for a := range uint64(30) {
		for b := range uint64(30) {
			gcd(api.Nat{a}, api.Nat{b, 0})
		}
	}
	gcd(nil, nil)
	gcd(api.Nat{0, 0}, nil)
	gcd(nil, api.Nat{6, 1, 0})
	gcd(api.Nat{6, 1, 0}, api.Nat{0})
	gcd(power2(9000, 0), power2(8000, 0))
	gcd(power2(5000, -1), power2(6000, -1))
}

// inverse fails the test if Inverse of a modulo m is not what another
// arithmetic says.
func inverse(t *testing.T, a, m api.Nat) {
	t.Helper()
	got, ok := modarith.Inverse(a, m)
	z := toBig(m)
	if z.Cmp(big.NewInt(2)) < 0 {
		no(t, got, ok, "Inverse", a, m)
		return
	}
	if want := new(big.Int).ModInverse(toBig(a), z); want != nil {
		yes(t, got, ok, want, "Inverse", a, m)
		return
	}
	no(t, got, ok, "Inverse", a, m)
}

// P2.1: Inverse holds against another arithmetic.
func TestInverse(t *testing.T) {
	for a := range uint64(60) {
		for m := range uint64(60) {
			inverse(t, api.Nat{a}, api.Nat{m, 0})
		}
	}
	p := newPicker(3)
	for range 3000 {
		inverse(t, p.nat(5), p.nat(4))
	}
	m := power2(4096, -1)
	inverse(t, power2(4095, 3), m)
	inverse(t, power2(4000, -1), m)
	inverse(t, m, m)
	inverse(t, power2(4096, -2), m)
}

// P2.1: the examples of Inverse, and the moduli that have none.
func TestInverseExamples(t *testing.T) {
	b, ok := modarith.Inverse(api.Nat{3}, api.Nat{7})
	yes(t, b, ok, big.NewInt(5), "Inverse(3, 7)")
	b, ok = modarith.Inverse(api.Nat{10}, api.Nat{7})
	yes(t, b, ok, big.NewInt(5), "Inverse(10, 7)")
	b, ok = modarith.Inverse(api.Nat{2}, api.Nat{4})
	no(t, b, ok, "Inverse(2, 4)")
	b, ok = modarith.Inverse(api.Nat{1}, api.Nat{2})
	yes(t, b, ok, big.NewInt(1), "Inverse(1, 2)")
	for _, a := range []api.Nat{nil, {0}, {1}, {5}} {
		b, ok = modarith.Inverse(a, api.Nat{1})
		no(t, b, ok, "Inverse modulo 1", a)
	}
	b, ok = modarith.Inverse(api.Nat{0, 0}, api.Nat{5})
	no(t, b, ok, "Inverse(0, 5)")
}
