package rsa_test

import (
	"math/big"
	"slices"
	"testing"

	"bailey/api"
	"bailey/drbg"
	"bailey/rsa"
)

// generate fails the test if the new key is not that of the next two primes, or
// if more is drawn for it. It reports whether the first prime is the greater.
func (s source) generate(bits int, e api.Nat, what ...any) bool {
	s.Helper()
	k, rv := rsa.Generate(bits, e, s.d)
	if rv != api.OK {
		s.Fatalf("%v: Generate is %#x", what, rv)
	}
	value := toBig(e)
	p, q := s.prime(bits/2, value), s.prime(bits/2, value)
	inOrder := p.Cmp(q) > 0
	if !inOrder {
		p, q = q, p
	}
	same(s.T, k.P, p, what, "P")
	same(s.T, k.Q, q, what, "Q")
	same(s.T, k.N, times(p, q), what, "N")
	same(s.T, k.E, value, what, "E")
	same(s.T, k.D, new(big.Int).ModInverse(value, multiple(p, q)), what, "D")
	if toBig(k.N).BitLen() != bits || !rsa.Valid(k) || rsa.Size(k) != bits/8 {
		s.Fatalf("%v: the key is not one of %d bits", what, bits)
	}
	s.level(what...)
	return inOrder
}

// P7.2: Generate holds against another arithmetic.
func TestGenerate(t *testing.T) {
	inOrder := 0
	for _, bits := range []int{256, 320, 384, 512, 576, 640} {
		for _, e := range odd[1:] {
			s := newSource(t, "generate")
			for range 4 {
				if s.generate(bits, api.Nat{e}, bits, e) {
					inOrder++
				}
			}
			s.generate(bits, api.Nat{e, 0, 0}, bits, e, "with noughts")
		}
	}
	if all := 6 * 4 * len(odd[1:]); inOrder == 0 || inOrder == all {
		t.Errorf("the first prime is the greater %d times of %d", inOrder, all)
	}
}

// P7.2: Generate of the greatest sizes.
func TestGenerateLong(t *testing.T) {
	t.Parallel()
	for _, bits := range []int{1024, 2048, 4096} {
		newSource(t, "six").generate(bits, api.Nat{65537}, bits)
	}
}

// P7.2: the example, by the program's own iterator.
func TestGenerateExample(t *testing.T) {
	k, rv := rsa.Generate(512, api.Nat{65537}, drbg.New([]byte("x")))
	if rv != api.OK || !rsa.Valid(k) {
		t.Fatalf("%#x", rv)
	}
	var list []*big.Int
	for p := range rsa.Primes(256, api.Nat{65537}, drbg.New([]byte("x"))) {
		if list = append(list, toBig(p)); len(list) == 2 {
			break
		}
	}
	same(t, k.N, times(list[0], list[1]))
	if toBig(k.N).BitLen() != 512 {
		t.Errorf("N is %x", k.N)
	}
}

// P7.2: the errors, which of them comes first, and that none draws anything.
func TestGenerateErrors(t *testing.T) {
	s := newSource(t, "errors")
	refused := func(bits int, e api.Nat, d *drbg.DRBG, want api.RV) {
		t.Helper()
		if k, rv := rsa.Generate(bits, e, d); rv != want || !isZero(k) {
			t.Errorf("Generate of %d bits with %x: %#x, want %#x", bits, e, rv, want)
		}
	}
	wrong := []api.Nat{nil, {}, {0}, {0, 0}, {1}, {1, 0, 0}, {2}, {4}, {4, 0}, {1<<64 - 2}, {0, 1}, {1, 1}, {3, 1}, {3, 0, 1}, fromBig(power2(64, 1)), fromBig(power2(5000, 1))}
	for _, bits := range append([]int{64, 128, 192, 255, 257, 264, 288, 300, 319, 321, 1000, 2047, 2080, 4032 + 32, 4095, 4097}, wrongSizes...) {
		for _, e := range append([]api.Nat{{3}, {65537}}, wrong...) {
			refused(bits, e, s.d, api.KeySizeRange)
			refused(bits, e, nil, api.KeySizeRange)
		}
	}
	for _, bits := range []int{256, 320, 2048, 4032, 4096} {
		for _, e := range wrong {
			refused(bits, e, s.d, api.ArgumentsBad)
			refused(bits, e, nil, api.ArgumentsBad)
		}
		refused(bits, api.Nat{3}, nil, api.ArgumentsBad)
		refused(bits, api.Nat{65537, 0}, nil, api.ArgumentsBad)
	}
	if s.d.Left() != 0 {
		t.Errorf("Left is %d", s.d.Left())
	}
	s.level()
}

// P0.5: the same entropy makes the same key, and the next key is another.
func TestGenerateAgain(t *testing.T) {
	first := drbg.New([]byte("again"))
	var last api.RSAKey
	for range 5 {
		k, _ := rsa.Generate(256, api.Nat{3}, first)
		if slices.Equal(k.N, last.N) || slices.Equal(k.P, last.P) || slices.Equal(k.Q, last.Q) {
			t.Fatal("the same key twice")
		}
		last = k
	}
	second := drbg.New([]byte("again"))
	var k api.RSAKey
	for range 5 {
		k, _ = rsa.Generate(256, api.Nat{3}, second)
	}
	if !slices.Equal(k.N, last.N) || !slices.Equal(k.D, last.D) {
		t.Error("the same calls make another key")
	}
}

// P0.3: Generate neither changes nor gives out e, and the numbers of its key
// share no memory.
func TestGenerateMemory(t *testing.T) {
	for _, list := range []api.Nat{{3}, {65537, 0, 0}} {
		e := withRoom(list)
		kept := slices.Clone(e[:cap(e)])
		k, _ := rsa.Generate(256, e, drbg.New(nil))
		numbers := []api.Nat{k.N, k.E, k.D, k.P, k.Q}
		var values []*big.Int
		for _, a := range numbers {
			values = append(values, toBig(a))
		}
		for i, a := range numbers {
			spoil(a)
			for j, b := range numbers[i+1:] {
				same(t, b, values[i+1+j], "behind a change of number", i)
			}
		}
		if !slices.Equal(e[:cap(e)], kept) {
			t.Fatal("Generate changes e, or gives it out")
		}
	}
}
