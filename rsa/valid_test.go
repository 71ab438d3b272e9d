package rsa_test

import (
	"math/big"
	"testing"

	"bailey/api"
	"bailey/rsa"
)

// foolish is the least composite that is Strong for all witnesses of Few.
const foolish = "318665857834031151167461"

// base is a valid key of 256 bits.
func base(t *testing.T) api.RSAKey {
	t.Helper()
	p := newPicker(1)
	e := small(65537)
	return key(t, p.prime(128, e), p.prime(128, e), e)
}

// valid fails the test if Valid of k is not want, with noughts at the ends of
// its numbers and without.
func valid(t *testing.T, k api.RSAKey, want bool, what ...any) {
	t.Helper()
	if rsa.Valid(k) != want || rsa.Valid(zeros(k)) != want {
		t.Errorf("%v: Valid is not %v", what, want)
	}
}

// P7.3: keys of several lengths and exponents, with their primes in both
// orders.
func TestValid(t *testing.T) {
	pick := newPicker(2)
	for _, bits := range []int{256, 258, 320, 512, 1024} {
		for _, e := range []*big.Int{small(3), small(65537), small(1<<64 - 1), before(power2(bits-2, 0))} {
			p, q := pick.prime(bits/2, e), pick.prime(bits/2, e)
			valid(t, key(t, p, q, e), true, bits, e)
			valid(t, key(t, q, p, e), true, bits, e)
		}
	}
}

// P7.3: the least and the greatest length of N, and one bit beyond each.
func TestValidLength(t *testing.T) {
	t.Parallel()
	e := small(65537)
	pick := newPicker(3)
	long, short := pick.prime(4000, e), pick.prime(96, e)
	for _, c := range []struct {
		p, q *big.Int
		bits int
		want bool
	}{
		{next(power2(127, 0), e), next(power2(128, 0), e), 256, true},
		{next(power2(127, 0), e), next(plus(power2(127, 0), small(1000)), e), 255, false},
		{pick.prime(64, e), pick.prime(64, e), 128, false},
		{long, short, 4096, true},
		{short, long, 4096, true},
		{long, next(power2(96, 0), e), 4096, true},
		{long, next(power2(97, 0), e), 4097, false},
		{long, pick.prime(97, e), 4097, false},
	} {
		k := key(t, c.p, c.q, e)
		if got := toBig(k.N).BitLen(); got != c.bits {
			t.Fatalf("N has %d bits, not %d", got, c.bits)
		}
		valid(t, k, c.want, "N of", c.bits)
	}
}

// P7.3: P and Q that are the same prime, with all else as it should be.
func TestValidSamePrime(t *testing.T) {
	e := small(65537)
	p := newPicker(4).prime(128, e)
	valid(t, key(t, p, p, e), false)
}

// P7.3: P or Q that is not Probable, with all else as it should be; and one
// that is Probable, though it is composite.
func TestValidComposite(t *testing.T) {
	pick := newPicker(5)
	e := small(257)
	q := pick.prime(200, e)
	for _, c := range []struct {
		p    *big.Int
		want bool
	}{
		{pick.prime(80, e), true},
		{digits(t, foolish), true},
		{small(9), false},
		{small(2047), false},
		{small(561), false}, // a Carmichael number
		{small(1373653), false},
		{times(pick.prime(64, e), pick.prime(64, e)), false},
		{times(pick.prime(64, e), small(41)), false},
		{times(q, q), false},
		{small(1000), false},
	} {
		d := new(big.Int).ModInverse(e, multiple(c.p, q))
		if d == nil {
			d = small(1)
		}
		k := api.RSAKey{N: fromBig(times(c.p, q)), E: fromBig(e), D: fromBig(d), P: fromBig(c.p), Q: fromBig(q)}
		valid(t, k, c.want, "P is", c.p)
		k.P, k.Q = k.Q, k.P
		valid(t, k, c.want, "Q is", c.p)
	}
}

// P7.3: small primes. The remainder of a division by 2 - 1 is never 1.
func TestValidSmallPrime(t *testing.T) {
	e := small(257)
	q := newPicker(6).prime(300, e)
	for _, p := range []uint64{1, 2, 3, 5, 7, 37, 41} {
		d := new(big.Int).ModInverse(e, before(q))
		for p > 2 && new(big.Int).Mod(times(e, d), small(p-1)).Cmp(small(1%(p-1))) != 0 {
			d = plus(d, before(q))
			if d.BitLen() > 310 {
				t.Fatalf("no D for %d", p)
			}
		}
		n := times(q, small(p))
		if d.Cmp(n) >= 0 {
			t.Fatalf("D is too great for %d", p)
		}
		k := api.RSAKey{N: fromBig(n), E: fromBig(e), D: fromBig(d), P: api.Nat{p}, Q: fromBig(q)}
		valid(t, k, p > 2, "P is", p)
		k.P, k.Q = k.Q, k.P
		valid(t, k, p > 2, "Q is", p)
	}
}

// P7.3: N that is not P*Q.
func TestValidProduct(t *testing.T) {
	k := base(t)
	n := toBig(k.N)
	other := base(t)
	for _, d := range []int64{-2, -1, 1, 2, 1 << 40} {
		other.N = fromBig(plus(n, big.NewInt(d)))
		valid(t, other, false, "N and", d)
	}
	other.N = fromBig(plus(n, power2(64, 0)))
	valid(t, other, false, "N and 2^64")
	other.N = fromBig(plus(n, power2(300, 0)))
	valid(t, other, false, "N and 2^300")
	other = base(t)
	other.P, other.Q = k.N, api.Nat{1}
	valid(t, other, false, "N and 1")
	other.P, other.Q = api.Nat{1}, k.N
	valid(t, other, false, "1 and N")
}

// P7.3: E that is 1, even, N or greater, and D with it.
func TestValidE(t *testing.T) {
	k := base(t)
	n, m := toBig(k.N), multiple(toBig(k.P), toBig(k.Q))
	with := func(e, d *big.Int) api.RSAKey {
		other := base(t)
		other.E, other.D = fromBig(e), fromBig(d)
		return other
	}
	inverse := func(e *big.Int) *big.Int {
		t.Helper()
		d := new(big.Int).ModInverse(e, m)
		if d == nil {
			t.Fatalf("%x has no inverse", e)
		}
		return d
	}
	valid(t, with(one, one), false, "E and D of 1")
	valid(t, with(plus(m, one), one), true, "E of the multiple and 1")
	valid(t, with(one, plus(m, one)), false, "E of 1")
	valid(t, with(small(0), one), false, "E of 0")
	valid(t, with(small(2), one), false, "E of 2")
	valid(t, with(small(65538), toBig(k.D)), false, "an even E")
	valid(t, with(n, inverse(n)), false, "E of N")
	least := toBig(k.E)
	for least.Cmp(n) < 0 {
		valid(t, with(least, toBig(k.D)), true, "E less than N")
		least = plus(least, m)
	}
	valid(t, with(least, toBig(k.D)), false, "E of more than N")
	below := plus(n, big.NewInt(-2))
	for new(big.Int).GCD(nil, nil, below, m).Cmp(one) != 0 {
		below = plus(below, big.NewInt(-2))
	}
	valid(t, with(below, inverse(below)), true, "E almost N")
}

// P7.3: D that is N or greater, and E with it.
func TestValidD(t *testing.T) {
	k := base(t)
	n, m := toBig(k.N), multiple(toBig(k.P), toBig(k.Q))
	d := toBig(k.D)
	for d.Cmp(n) < 0 {
		k.D = fromBig(d)
		valid(t, k, true, "D less than N")
		d = plus(d, m)
	}
	k.D = fromBig(d)
	valid(t, k, false, "D of more than N")
	k.D = fromBig(plus(d, times(m, power2(5000, 0))))
	valid(t, k, false, "D of much more than N")
	k.D, k.E = k.N, fromBig(new(big.Int).ModInverse(n, m))
	valid(t, k, false, "D of N")
}

// P7.3: D that fits neither of P and Q, or only one of them.
func TestValidRemainder(t *testing.T) {
	k := base(t)
	p, q, d, n := toBig(k.P), toBig(k.Q), toBig(k.D), toBig(k.N)
	for _, add := range []*big.Int{big.NewInt(-2), big.NewInt(-1), one, small(2)} {
		k.D = fromBig(plus(d, add))
		valid(t, k, false, "D and", add)
	}
	for _, c := range []struct {
		fits *big.Int
		what string
	}{{p, "only P"}, {q, "only Q"}} {
		some := plus(d, before(c.fits))
		if some.Cmp(n) >= 0 {
			t.Fatal("D is too great")
		}
		k.D = fromBig(some)
		valid(t, k, false, "D fits", c.what)
	}
	k.D = nil
	valid(t, k, false, "D of 0")
	k.D = fromBig(new(big.Int).Sub(multiple(p, q), d))
	valid(t, k, false, "E*D of -1")
}

// P7.3 and P0.1: keys of zeros, of one, of huge numbers, and each number of a
// valid key changed for one of those.
func TestValidWrong(t *testing.T) {
	huge := make(api.Nat, 1<<20)
	for i := range huge {
		huge[i] = 1<<64 - 1
	}
	list := []api.Nat{nil, {}, {0}, {0, 0}, {1}, {2}, {3}, {4}, {1 << 63}, {0, 1}, {1, 1}, fromBig(power2(4095, 1)), fromBig(power2(4096, -1)), fromBig(power2(4096, 1)), huge, withZeros(huge)}
	for i, a := range list {
		valid(t, api.RSAKey{N: a, E: a, D: a, P: a, Q: a}, false, "all of", i)
		for _, place := range []func(k *api.RSAKey) *api.Nat{
			func(k *api.RSAKey) *api.Nat { return &k.N },
			func(k *api.RSAKey) *api.Nat { return &k.D },
			func(k *api.RSAKey) *api.Nat { return &k.E },
			func(k *api.RSAKey) *api.Nat { return &k.P },
			func(k *api.RSAKey) *api.Nat { return &k.Q },
		} {
			k := base(t)
			*place(&k) = a
			valid(t, k, false, "one of", i)
		}
		k := base(t)
		k.P, k.Q = a, a
		valid(t, k, false, "P and Q of", i)
		k.N = list[len(list)-3]
		valid(t, k, false, "N of 4,096 bits, P and Q of", i)
	}
	if rsa.Valid(api.RSAKey{}) {
		t.Error("the zero key is Valid")
	}
}

// P7.3: Size about a byte's end, of zero, and of any length.
func TestSize(t *testing.T) {
	for _, c := range []struct {
		n    api.Nat
		want int
	}{
		{nil, 0}, {api.Nat{}, 0}, {api.Nat{0}, 0}, {api.Nat{0, 0}, 0}, {api.Nat{1}, 1}, {api.Nat{127}, 1}, {api.Nat{128, 0}, 1}, {api.Nat{255}, 1},
		{api.Nat{256}, 2}, {api.Nat{3233}, 2}, {api.Nat{65535, 0, 0}, 2}, {api.Nat{65536}, 3}, {api.Nat{1<<56 - 1}, 7}, {api.Nat{1 << 56}, 8},
		{api.Nat{1<<64 - 1}, 8}, {api.Nat{0, 1}, 9}, {api.Nat{0, 255}, 9}, {api.Nat{0, 256}, 10},
		{fromBig(power2(1024, -1)), 128}, {fromBig(power2(1024, 0)), 129}, {fromBig(power2(4096, -1)), 512}, {fromBig(power2(4096, 0)), 513},
		{make(api.Nat, 1<<20), 0}, {append(make(api.Nat, 1<<20), 1), 8<<20 + 1},
	} {
		if got := rsa.Size(api.RSAKey{N: c.n}); got != c.want {
			t.Errorf("Size of %d limbs is %d, want %d", len(c.n), got, c.want)
		}
	}
	k := base(t)
	if rsa.Size(k) != 32 || rsa.Size(zeros(k)) != 32 {
		t.Error("Size of 256 bits is not 32")
	}
	if rsa.Size(api.RSAKey{E: k.E, D: k.D, P: k.P, Q: k.Q}) != 0 {
		t.Error("Size is not that of N")
	}
}
