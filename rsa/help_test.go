package rsa_test

import (
	"bytes"
	"math"
	"math/big"
	"math/rand"
	"testing"

	"bailey/api"
	"bailey/drbg"
)

// wrongSizes are numbers of bits that neither a modulus nor a prime has.
var wrongSizes = []int{0, 1, -1, -8, -64, -256, math.MinInt, math.MinInt + 1, 4160, 8192, 1 << 20, 1 << 32, 1<<32 + 256, math.MaxInt - 63, math.MaxInt}

// one is 1.
var one = big.NewInt(1)

// toBig is a number's value, by arithmetic that is not the program's.
func toBig(a api.Nat) *big.Int {
	z := new(big.Int)
	for i := len(a) - 1; i >= 0; i-- {
		z.Lsh(z, 64)
		z.Or(z, new(big.Int).SetUint64(a[i]))
	}
	return z
}

// fromBig is the number in normal form with the value of x.
func fromBig(x *big.Int) api.Nat {
	var a api.Nat
	for y, low := new(big.Int).Set(x), new(big.Int).SetUint64(math.MaxUint64); y.Sign() > 0; y.Rsh(y, 64) {
		a = append(a, new(big.Int).And(y, low).Uint64())
	}
	return a
}

// digits is the value that text says.
func digits(t *testing.T, text string) *big.Int {
	t.Helper()
	x, ok := new(big.Int).SetString(text, 10)
	if !ok {
		t.Fatalf("not a number: %s", text)
	}
	return x
}

// power2 is 2^n + d.
func power2(n int, d int64) *big.Int {
	x := new(big.Int).Lsh(one, uint(n))
	return x.Add(x, big.NewInt(d))
}

// small is n.
func small(n uint64) *big.Int { return new(big.Int).SetUint64(n) }

// plus is a + b.
func plus(a, b *big.Int) *big.Int { return new(big.Int).Add(a, b) }

// times is a * b.
func times(a, b *big.Int) *big.Int { return new(big.Int).Mul(a, b) }

// before is x - 1.
func before(x *big.Int) *big.Int { return new(big.Int).Sub(x, one) }

// multiple is the least common multiple of p - 1 and q - 1.
func multiple(p, q *big.Int) *big.Int {
	a, b := before(p), before(q)
	return times(a, new(big.Int).Div(b, new(big.Int).GCD(nil, nil, a, b)))
}

// withZeros is a with noughts at its end.
func withZeros(a api.Nat) api.Nat {
	return append(append(api.Nat(nil), a...), 0, 0)
}

// withRoom is a with spare capacity, in which no call may write.
func withRoom(a api.Nat) api.Nat {
	room := append(append(make(api.Nat, 0, len(a)+4), a...), 7, 7, 7, 7)
	return room[:len(a)]
}

// spoil writes over a number and its spare capacity.
func spoil(a api.Nat) {
	a = a[:cap(a)]
	for i := range a {
		a[i] ^= 0xa5a5
	}
}

// same fails the test if got is not want in normal form.
func same(t *testing.T, got api.Nat, want *big.Int, what ...any) {
	t.Helper()
	if len(got) > 0 && got[len(got)-1] == 0 {
		t.Fatalf("%v: %x is not in normal form", what, got)
	}
	if toBig(got).Cmp(want) != 0 {
		t.Fatalf("%v: got %x, want %x", what, toBig(got), want)
	}
}

// no fails the test if got and ok do not say that there is no result.
func no(t *testing.T, got api.Nat, ok bool, what ...any) {
	t.Helper()
	if ok || len(got) != 0 {
		t.Fatalf("%v: got %x, %v, want zero and false", what, got, ok)
	}
}

// isZero reports whether k is the zero key.
func isZero(k api.RSAKey) bool {
	return len(k.N)+len(k.E)+len(k.D)+len(k.P)+len(k.Q) == 0
}

// key is a key of p and q in their order, with D modulo the least common
// multiple; e and that multiple have no common divisor.
func key(t *testing.T, p, q, e *big.Int) api.RSAKey {
	t.Helper()
	d := new(big.Int).ModInverse(e, multiple(p, q))
	if d == nil {
		t.Fatalf("%x has no inverse for %x and %x", e, p, q)
	}
	return api.RSAKey{N: fromBig(times(p, q)), E: fromBig(e), D: fromBig(d), P: fromBig(p), Q: fromBig(q)}
}

// zeros is k, with noughts at the ends of its numbers.
func zeros(k api.RSAKey) api.RSAKey {
	return api.RSAKey{N: withZeros(k.N), E: withZeros(k.E), D: withZeros(k.D), P: withZeros(k.P), Q: withZeros(k.Q)}
}

// picker makes numbers that follow from a seed.
type picker struct{ *rand.Rand }

func newPicker(seed int64) picker { return picker{rand.New(rand.NewSource(seed))} }

// bits makes a number of exactly n bits.
func (p picker) bits(n int) *big.Int {
	x := new(big.Int).Rand(p.Rand, power2(n-1, 0))
	return x.SetBit(x, n-1, 1)
}

// below makes a number less than n.
func (p picker) below(n *big.Int) *big.Int {
	return new(big.Int).Rand(p.Rand, n)
}

// prime makes a prime of n bits, with both of its highest bits set, for which
// p - 1 and e have no common divisor.
func (p picker) prime(n int, e *big.Int) *big.Int {
	for {
		x := p.bits(n)
		x.SetBit(x, n-2, 1)
		if x = next(x, e); x.BitLen() == n {
			return x
		}
	}
}

// next is the least odd p from n on, greater than 2, that is prime and for
// which p - 1 and e have no common divisor.
func next(n, e *big.Int) *big.Int {
	p := new(big.Int).Set(n)
	p.SetBit(p, 0, 1)
	for ; ; p.Add(p, big.NewInt(2)) {
		if new(big.Int).GCD(nil, nil, before(p), e).Cmp(one) == 0 && p.ProbablyPrime(2) {
			return p
		}
	}
}

// source is a generator beside another one of the same entropy, from which the
// test itself draws what the program should draw.
type source struct {
	*testing.T
	d, twin *drbg.DRBG
}

func newSource(t *testing.T, entropy string) source {
	return source{t, drbg.New([]byte(entropy)), drbg.New([]byte(entropy))}
}

// prime is the next prime of Primes, in another arithmetic.
func (s source) prime(bits int, e *big.Int) *big.Int {
	for {
		x := new(big.Int).SetBytes(s.twin.Bytes(bits / 8))
		x.SetBit(x.SetBit(x.SetBit(x, bits-1, 1), bits-2, 1), 0, 1)
		if p := next(x, e); p.BitLen() == bits {
			return p
		}
	}
}

// level fails the test if the program has drawn more or less than the test, or
// other lengths.
func (s source) level(what ...any) {
	s.Helper()
	if s.d.Left() != s.twin.Left() {
		s.Fatalf("%v: Left is %d, want %d", what, s.d.Left(), s.twin.Left())
	}
	if !bytes.Equal(s.d.Bytes(40), s.twin.Bytes(40)) {
		s.Fatalf("%v: the generator is not where it should be", what)
	}
}
