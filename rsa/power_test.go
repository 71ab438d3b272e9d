package rsa_test

import (
	"math/big"
	"slices"
	"testing"

	"bailey/api"
	"bailey/rsa"
)

// powers fails the test if Public with the exponent e, or Private with it, does
// not return x^e modulo n. The other numbers of the key mean nothing to them.
func powers(t *testing.T, x, e, n *big.Int, what ...any) {
	t.Helper()
	want := new(big.Int).Exp(x, e, n)
	if n.Cmp(one) == 0 {
		want = new(big.Int)
	}
	base := fromBig(x)
	for _, other := range []api.Nat{nil, {5}, fromBig(power2(4096, 1))} {
		for _, k := range []api.RSAKey{{N: fromBig(n), E: fromBig(e), D: other, P: other, Q: other}, {N: withZeros(fromBig(n)), E: withZeros(fromBig(e)), P: api.Nat{3}, Q: api.Nat{5}}} {
			got, ok := rsa.Public(k, base)
			if !ok {
				t.Fatalf("%v: Public is false", what)
			}
			same(t, got, want, what, "Public")
			k.D, k.E = k.E, k.D
			got, ok = rsa.Private(k, withZeros(base))
			if !ok {
				t.Fatalf("%v: Private is false", what)
			}
			same(t, got, want, what, "Private")
		}
	}
}

// noPowers fails the test if Public or Private has a result.
func noPowers(t *testing.T, x, e, n api.Nat, what ...any) {
	t.Helper()
	for _, other := range []api.Nat{nil, {5}} {
		k := api.RSAKey{N: n, E: e, D: other, P: other, Q: other}
		got, ok := rsa.Public(k, x)
		no(t, got, ok, what, "Public")
		k.D, k.E = k.E, k.D
		got, ok = rsa.Private(k, x)
		no(t, got, ok, what, "Private")
	}
}

// P7.4: the example.
func TestPowerExample(t *testing.T) {
	k := api.RSAKey{N: api.Nat{3233}, E: api.Nat{17}, D: api.Nat{413}}
	for _, k := range []api.RSAKey{k, zeros(k)} {
		got, ok := rsa.Public(k, api.Nat{65})
		if !ok {
			t.Fatal("Public is false")
		}
		same(t, got, small(2790))
		got, ok = rsa.Private(k, api.Nat{2790, 0})
		if !ok {
			t.Fatal("Private is false")
		}
		same(t, got, small(65))
		got, ok = rsa.Public(k, api.Nat{3233})
		no(t, got, ok)
		if rsa.Valid(k) {
			t.Error("the key is Valid")
		}
	}
}

// P7.4: powers modulo small numbers, odd and even, 1 among them.
func TestPowersSmall(t *testing.T) {
	for n := uint64(1); n < 24; n++ {
		for x := range n {
			for _, e := range []uint64{0, 1, 2, 3, 4, 17, 65537} {
				powers(t, small(x), small(e), small(n), x, e, n)
			}
		}
	}
}

// P7.4: an x of N or more, and N of 0.
func TestPowersNone(t *testing.T) {
	list := []*big.Int{small(0), one, small(2), small(3233), small(1<<64 - 1), power2(64, 0), power2(256, 1), power2(4096, -1)}
	for i, n := range list {
		for j, x := range append(list, power2(4096, 0), power2(9000, 0)) {
			if x.Cmp(n) < 0 {
				continue
			}
			for _, e := range []api.Nat{nil, {1}, {3, 0}} {
				noPowers(t, fromBig(x), e, fromBig(n), i, j)
				noPowers(t, withZeros(fromBig(x)), e, withZeros(fromBig(n)), i, j)
			}
		}
	}
	for _, n := range []api.Nat{nil, {}, {0}, {0, 0}} {
		for _, x := range []api.Nat{nil, {0, 0}, {1}} {
			noPowers(t, x, api.Nat{3}, n)
			noPowers(t, x, nil, n)
		}
	}
}

// P7.4: x of 0, 1, N - 1 and N.
func TestPowersEdges(t *testing.T) {
	pick := newPicker(7)
	for _, bits := range []int{2, 12, 63, 64, 65, 128, 256, 1024} {
		for _, odd := range []uint{0, 1} {
			n := pick.bits(bits)
			n.SetBit(n, 0, odd)
			for _, e := range []*big.Int{small(0), one, small(2), small(3), pick.bits(bits), n} {
				for _, x := range []*big.Int{small(0), one, before(n), pick.below(n)} {
					powers(t, x, e, n, bits, odd)
				}
				noPowers(t, fromBig(n), fromBig(e), fromBig(n), bits, odd)
				noPowers(t, fromBig(plus(n, one)), fromBig(e), fromBig(n), bits, odd)
			}
		}
	}
}

// P7.4: moduli and exponents of 4,096 bits, and of one more.
func TestPowersLengths(t *testing.T) {
	t.Parallel()
	pick := newPicker(8)
	most, over := power2(4096, -1), power2(4096, 0)
	x := pick.bits(4095)
	powers(t, x, small(3), most, "N of 4,096 bits")
	powers(t, before(most), small(65537), most, "x of N - 1")
	powers(t, x, small(3), power2(4095, 0), "an even N of 4,096 bits")
	powers(t, small(2), most, small(3233), "an exponent of 4,096 bits")
	powers(t, x, pick.bits(4096), most, "both of 4,096 bits")
	for _, long := range []*big.Int{over, plus(over, one), power2(4097, -1), power2(9000, 1)} {
		for _, x := range []api.Nat{nil, {1}, {2, 0}, fromBig(x)} {
			noPowers(t, x, api.Nat{3}, fromBig(long), "N of more than 4,096 bits")
			noPowers(t, x, nil, fromBig(long), "N of more than 4,096 bits")
			noPowers(t, x, fromBig(long), fromBig(most), "an exponent of more than 4,096 bits")
			noPowers(t, x, fromBig(long), fromBig(long), "both of more than 4,096 bits")
		}
		noPowers(t, nil, fromBig(long), api.Nat{1}, "an exponent of more than 4,096 bits, N of 1")
		noPowers(t, nil, fromBig(long), nil, "an exponent of more than 4,096 bits, N of 0")
	}
}

// P7.4: an exponent that is too long counts only where it is used.
func TestPowersOtherExponent(t *testing.T) {
	k := api.RSAKey{N: api.Nat{3233}, E: api.Nat{17}, D: fromBig(power2(4096, 0))}
	got, ok := rsa.Public(k, api.Nat{65})
	if !ok {
		t.Fatal("Public is false")
	}
	same(t, got, small(2790))
	got, ok = rsa.Private(k, api.Nat{65})
	no(t, got, ok, "Private")
	k = api.RSAKey{N: api.Nat{3233}, E: fromBig(power2(4096, 0)), D: api.Nat{413}}
	if got, ok = rsa.Private(k, api.Nat{2790}); !ok {
		t.Fatal("Private is false")
	}
	same(t, got, small(65))
	got, ok = rsa.Public(k, api.Nat{65})
	no(t, got, ok, "Public")
}

// P7.4: with a valid key, each takes back what the other does.
func TestPowersBack(t *testing.T) {
	pick := newPicker(9)
	for _, bits := range []int{256, 512, 1024} {
		e := small(65537)
		p, q := pick.prime(bits/2, e), pick.prime(bits/2, e)
		k := key(t, p, q, e)
		for _, x := range []*big.Int{small(0), one, small(2), p, q, times(p, small(7)), before(toBig(k.N)), pick.below(toBig(k.N))} {
			powers(t, x, toBig(k.E), toBig(k.N), bits)
			powers(t, x, toBig(k.D), toBig(k.N), bits)
			y, _ := rsa.Public(k, fromBig(x))
			back, ok := rsa.Private(k, y)
			if !ok {
				t.Fatal("Private is false")
			}
			same(t, back, x, bits)
		}
	}
}

// P7.4: Private of keys whose P and Q tell something else than N and D: they
// are composite though Valid, not the factors of N, the same, or anything.
func TestPrivatePrimes(t *testing.T) {
	pick := newPicker(10)
	e := small(257)
	q := pick.prime(200, e)
	k := key(t, digits(t, foolish), q, e)
	if !rsa.Valid(k) {
		t.Fatal("the key is not Valid")
	}
	swapped, wrong, one, none, twice := k, k, k, k, k
	swapped.P, swapped.Q = k.Q, k.P
	wrong.P = fromBig(plus(toBig(k.P), small(2)))
	one.P, one.Q = k.N, api.Nat{1}
	none.P, none.Q = nil, nil
	twice.P = k.Q
	for i, k := range []api.RSAKey{k, swapped, wrong, one, none, twice} {
		for range 20 {
			x := pick.below(toBig(k.N))
			for _, k := range []api.RSAKey{k, zeros(k)} {
				got, ok := rsa.Private(k, fromBig(x))
				if !ok {
					t.Fatal("Private is false")
				}
				same(t, got, new(big.Int).Exp(x, toBig(k.D), toBig(k.N)), i)
			}
		}
	}
}

// P0.1: huge numbers, in keys and as x.
func TestPowersHuge(t *testing.T) {
	huge := make(api.Nat, 1<<20)
	for i := range huge {
		huge[i] = 1<<64 - 1
	}
	for _, a := range []api.Nat{nil, {0}, {1}, {2}, {3233}} {
		noPowers(t, huge, a, api.Nat{3233})
		noPowers(t, a, a, huge)
		noPowers(t, nil, huge, a)
	}
	noPowers(t, huge, huge, huge)
}

// P0.3: no call changes an argument or its spare capacity, and a result is
// memory of its own.
func TestPowersMemory(t *testing.T) {
	k := base(t)
	calls := map[string]func(k api.RSAKey, x api.Nat) api.Nat{
		"Public":  func(k api.RSAKey, x api.Nat) api.Nat { z, _ := rsa.Public(k, x); return z },
		"Private": func(k api.RSAKey, x api.Nat) api.Nat { z, _ := rsa.Private(k, x); return z },
		"Valid":   func(k api.RSAKey, x api.Nat) api.Nat { rsa.Valid(k); return nil },
		"Size":    func(k api.RSAKey, x api.Nat) api.Nat { rsa.Size(k); return nil },
	}
	for name, call := range calls {
		for _, c := range []api.RSAKey{k, zeros(k), {N: k.N, E: api.Nat{1}, D: api.Nat{1}, P: k.P, Q: k.Q}, {N: api.Nat{3233, 0}, E: api.Nat{17, 0}, D: api.Nat{0}}, {}} {
			for _, x := range []api.Nat{nil, {0}, {1}, {65, 0}, k.N, k.P} {
				args := []api.Nat{withRoom(c.N), withRoom(c.E), withRoom(c.D), withRoom(c.P), withRoom(c.Q), withRoom(x)}
				var kept []api.Nat
				for _, a := range args {
					kept = append(kept, slices.Clone(a[:cap(a)]))
				}
				of := api.RSAKey{N: args[0], E: args[1], D: args[2], P: args[3], Q: args[4]}
				got := call(of, args[5])
				want := slices.Clone(got)
				spoil(got)
				for i, a := range args {
					if !slices.Equal(a[:cap(a)], kept[i]) {
						t.Fatalf("%s changes argument %d, or gives it out", name, i)
					}
				}
				if again := call(of, args[5]); !slices.Equal(again, want) {
					t.Fatalf("%s keeps what it gave out", name)
				}
			}
		}
	}
}
