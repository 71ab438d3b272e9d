package rsa_test

import (
	"iter"
	"math/big"
	"slices"
	"testing"

	"bailey/api"
	"bailey/drbg"
	"bailey/rsa"
)

// odd are exponents for which there are primes, the last one with the most
// primes that 64 bits can have.
var odd = []uint64{1, 3, 5, 17, 65537, 1<<63 + 1, 1<<64 - 1, 16294579238595022365}

// primes fails the test if n primes of the iterator are not the next ones, or
// if it draws for anything else.
func (s source) primes(each iter.Seq[api.Nat], n, bits int, e *big.Int, what ...any) {
	s.Helper()
	for p := range each {
		same(s.T, p, s.prime(bits, e), what...)
		if s.d.Left() != s.twin.Left() {
			s.Fatalf("%v: Left is %d, want %d", what, s.d.Left(), s.twin.Left())
		}
		if n--; n == 0 {
			break
		}
	}
	if n != 0 {
		s.Fatalf("%v: it ends, %d primes before it is left", what, n)
	}
	s.level(what...)
}

// P7.1: Primes goes over what another arithmetic finds, for lengths at the
// edges and between, and draws bits / 8 bytes for each.
func TestPrimes(t *testing.T) {
	for _, bits := range []int{64, 72, 80, 120, 128, 136, 192, 248, 256, 264} {
		for _, e := range odd {
			s := newSource(t, "primes")
			s.primes(rsa.Primes(bits, api.Nat{e}, s.d), 12, bits, small(e), bits, e)
			s.primes(rsa.Primes(bits, api.Nat{e, 0, 0}, s.d), 3, bits, small(e), bits, e, "with noughts")
		}
	}
}

// P7.1: Primes does not end by itself.
func TestPrimesMany(t *testing.T) {
	s := newSource(t, "many")
	s.primes(rsa.Primes(64, api.Nat{3}, s.d), 1500, 64, small(3))
}

// P7.1: the greatest lengths.
func TestPrimesLong(t *testing.T) {
	t.Parallel()
	for _, bits := range []int{1024, 2040, 2048} {
		s := newSource(t, "long")
		s.primes(rsa.Primes(bits, api.Nat{65537}, s.d), 1, bits, small(65537), bits)
	}
}

// P7.1: what each prime is: of bits bits, the two highest of them set, odd, and
// with nothing in common with e, less 1.
func TestPrimesKind(t *testing.T) {
	n := 0
	for p := range rsa.Primes(72, api.Nat{15}, drbg.New(nil)) {
		x := toBig(p)
		rest := new(big.Int).GCD(nil, nil, before(x), small(15))
		if x.BitLen() != 72 || x.Bit(70) != 1 || !x.ProbablyPrime(10) || rest.Cmp(one) != 0 {
			t.Fatalf("%x is none of the primes", x)
		}
		if n++; n == 300 {
			break
		}
	}
}

// P7.1: lengths, exponents and a generator for which there are no primes, and
// nothing is drawn.
func TestPrimesNone(t *testing.T) {
	s := newSource(t, "none")
	none := func(bits int, e api.Nat, d *drbg.DRBG) {
		t.Helper()
		each := rsa.Primes(bits, e, d)
		if each == nil {
			t.Fatalf("Primes of %d bits with %x is nil", bits, e)
		}
		for range 2 {
			for p := range each {
				t.Fatalf("Primes of %d bits with %x yields %x", bits, e, p)
			}
		}
	}
	for _, bits := range append([]int{8, 56, 63, 65, 68, 71, 73, 127, 129, 2047, 2049, 2052, 2056, 2112, 4096}, wrongSizes...) {
		none(bits, api.Nat{3}, s.d)
		none(bits, api.Nat{4}, s.d)
		none(bits, api.Nat{3}, nil)
	}
	for _, bits := range []int{64, 72, 256, 2048} {
		for _, e := range []api.Nat{nil, {}, {0}, {0, 0}, {2}, {4, 0}, {65536}, {1<<64 - 2}, {0, 1}, {1, 1}, {3, 1}, {3, 0, 1}, fromBig(power2(5000, 1))} {
			none(bits, e, s.d)
		}
		none(bits, api.Nat{3}, nil)
		none(bits, nil, nil)
	}
	if s.d.Left() != 0 {
		t.Errorf("Left is %d", s.d.Left())
	}
	s.level()
}

// P7.1: what is never gone over draws nothing.
func TestPrimesUnused(t *testing.T) {
	s := newSource(t, "unused")
	for range 10 {
		rsa.Primes(64, api.Nat{3}, s.d)
	}
	s.level()
}

// P7.1 and P0.7: left early, it has drawn for what it yielded and for no more,
// and gone over again it goes on behind that.
func TestPrimesLeft(t *testing.T) {
	s := newSource(t, "early")
	each := rsa.Primes(64, api.Nat{3}, s.d)
	for n := 1; n < 8; n++ {
		s.primes(each, n, 64, small(3), n)
		s.primes(rsa.Primes(80, api.Nat{5}, s.d), n, 80, small(5), n, "another")
	}
	calls := 0
	each(func(api.Nat) bool { calls++; return calls < 3 })
	if calls != 3 {
		t.Errorf("left after 3 primes, it yields %d", calls)
	}
}

// P7.1 and P0.7: one within another and within itself, all draw from the same
// generator.
func TestPrimesNested(t *testing.T) {
	s := newSource(t, "nested")
	each := rsa.Primes(72, api.Nat{3}, s.d)
	n := 0
	for p := range each {
		same(t, p, s.prime(72, small(3)), n)
		s.primes(each, 2, 72, small(3), n, "itself")
		s.primes(rsa.Primes(64, api.Nat{7}, s.d), 1, 64, small(7), n, "another")
		if n++; n == 8 {
			break
		}
	}
	s.level()
}

// P7.1: other calls of the generator between two primes.
func TestPrimesBetween(t *testing.T) {
	s := newSource(t, "between")
	n := 0
	for p := range rsa.Primes(64, api.Nat{3}, s.d) {
		same(t, p, s.prime(64, small(3)), n)
		switch n++; n % 3 {
		case 0:
			s.level(n)
		case 1:
			s.d.Reseed([]byte{byte(n)})
			s.twin.Reseed([]byte{byte(n)})
		}
		if n == 20 {
			break
		}
	}
	s.level()
}

// P0.3: Primes neither changes nor keeps e, and gives out memory of its own.
func TestPrimesMemory(t *testing.T) {
	for _, list := range []api.Nat{{3}, {3, 0, 0}, {65537}} {
		s := newSource(t, "memory")
		e, value := withRoom(list), toBig(list)
		kept := slices.Clone(e[:cap(e)])
		each := rsa.Primes(64, e, s.d)
		n := 0
		var last api.Nat
		for p := range each {
			if n == 0 && !slices.Equal(e[:cap(e)], kept) {
				t.Fatal("Primes changes e")
			}
			want := s.prime(64, value)
			same(t, p, want, n)
			spoil(last)
			spoil(e)
			same(t, p, want, n, "behind the one before it")
			spoil(p)
			if last = p; n == 9 {
				break
			}
			n++
		}
		if !slices.Equal(e[:cap(e)], kept) { // spoilt ten times
			t.Fatal("Primes gives e out")
		}
		spoil(e)
		s.primes(each, 2, 64, value, "again")
	}
}

// P0.5: the iterators of two generators do not touch each other.
func TestPrimesTwo(t *testing.T) {
	a, b := newSource(t, "a"), newSource(t, "b")
	eachA, eachB := rsa.Primes(64, api.Nat{3}, a.d), rsa.Primes(64, api.Nat{3}, b.d)
	for n := range 5 {
		a.primes(eachA, 2, 64, small(3), n, "a")
		b.primes(eachB, 3, 64, small(3), n, "b")
	}
}
