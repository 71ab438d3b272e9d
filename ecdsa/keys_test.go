package ecdsa_test

import (
	"math/big"
	"slices"
	"testing"

	"bailey/api"
	"bailey/drbg"
	"bailey/ecdsa"
)

// P10.1: Generate's key is 1 + d.Below(n - 1), and it takes that off the
// generator and no more.
func TestGenerate(t *testing.T) {
	for _, tape := range []string{"", "tape", "another", "a third one"} {
		for _, m := range models {
			d, byCall, byBytes := drbg.New([]byte(tape)), drbg.New([]byte(tape)), drbg.New([]byte(tape))
			for i := range 20 {
				key, pub, rv := ecdsa.Generate(m.c, d)
				below, _ := byCall.Below(fromBig(plus(m.N, -1)))
				want := m.draw(byBytes)
				if rv != api.OK || plus(toBig(below), 1).Cmp(want) != 0 {
					t.Fatal(tape, i, rv, below, want)
				}
				same(t, key, want, "Generate", m.Name, tape, i)
				at(t, pub, m.fold(want), "Generate", m.Name, tape, i)
				took(t, d, byCall, "Generate", m.Name, tape, i)
				byBytes.Bytes(40)
			}
		}
	}
}

// P10.1: one generator for both curves, and a generator that New did not make
// or that was reseeded.
func TestGenerateMixed(t *testing.T) {
	d, twin := &drbg.DRBG{}, &drbg.DRBG{}
	for i := range 12 {
		m := models[i%2]
		if i == 6 {
			d.Reseed([]byte("more"))
			twin.Reseed([]byte("more"))
		}
		key, pub, rv := ecdsa.Generate(m.c, d)
		want := m.draw(twin)
		if rv != api.OK {
			t.Fatal(rv)
		}
		same(t, key, want, "Generate", m.Name, i)
		at(t, pub, m.fold(want), "Generate", m.Name, i)
		took(t, d, twin, "Generate", m.Name, i)
	}
}

// P10.1: a curve that is not valid, a nil generator, and both: ArgumentsBad,
// with zero values beside it, and nothing is taken.
func TestGenerateWrong(t *testing.T) {
	d, twin := drbg.New([]byte("tape")), drbg.New([]byte("tape"))
	refused := func(c int, d *drbg.DRBG) {
		t.Helper()
		key, pub, rv := ecdsa.Generate(c, d)
		if rv != api.ArgumentsBad || key != nil || pub.Inf || pub.X != nil || pub.Y != nil {
			t.Fatal(c, key, pub, rv)
		}
	}
	for _, c := range wrongCurves {
		refused(c, d)
		refused(c, nil)
		took(t, d, twin, "Generate", c)
	}
	for _, m := range models {
		refused(m.c, nil)
	}
}

// P10.1: Public of every sort of private key, in every way to write it.
func TestPublic(t *testing.T) {
	for _, m := range models {
		keys := m.edgeKeys()
		for i := range int64(30) {
			keys = append(keys, m.key(100+i), big.NewInt(4+i))
		}
		for i, key := range keys {
			writings := long(key)
			if i > 20 {
				writings = writings[:1]
			}
			for _, writing := range writings {
				got, ok := ecdsa.Public(m.c, writing)
				if !ok {
					t.Fatal(m.Name, key)
				}
				at(t, got, m.fold(key), "Public", m.Name, key)
			}
		}
	}
}

// P10.1: Public of one is the base point, and of the order less one its
// inverse.
func TestPublicEnds(t *testing.T) {
	for _, m := range models {
		got, ok := ecdsa.Public(m.c, api.Nat{1})
		if !ok {
			t.Fatal(m.Name)
		}
		at(t, got, spot{m.Gx, m.Gy}, "Public of 1", m.Name)
		got, ok = ecdsa.Public(m.c, fromBig(plus(m.N, -1)))
		if !ok {
			t.Fatal(m.Name)
		}
		at(t, got, spot{m.Gx, new(big.Int).Sub(m.P, m.Gy)}, "Public of n - 1", m.Name)
	}
}

// noPublic fails the test if Public did not return the point at infinity and
// false.
func noPublic(t *testing.T, c int, key api.Nat) {
	t.Helper()
	got, ok := ecdsa.Public(c, key)
	if ok || !got.Inf || len(got.X) != 0 || len(got.Y) != 0 {
		t.Fatalf("Public(%d, %x): %v, %v", c, key, got, ok)
	}
}

// P10.1: Public of zero, of the order and above it, and of curves that are not
// valid.
func TestPublicWrong(t *testing.T) {
	for _, m := range models {
		for _, key := range m.notKeys() {
			for _, writing := range long(key) {
				noPublic(t, m.c, writing)
			}
		}
		noPublic(t, m.c, nil)
		noPublic(t, m.c, api.Nat{})
		for _, c := range wrongCurves {
			for _, key := range slices.Concat(m.edgeKeys(), m.notKeys()) {
				noPublic(t, c, fromBig(key))
			}
		}
	}
	// A private key of P-384 that is none of P-256.
	noPublic(t, api.P256, fromBig(power2(300, 1)))
}

// P10.1: the keys of RFC 6979, A.2.5 and A.2.6.
func TestPublicPublished(t *testing.T) {
	for _, v := range published {
		got, ok := ecdsa.Public(v.m.c, fromBig(v.key))
		if !ok {
			t.Fatal(v.m.Name)
		}
		at(t, got, v.pub, "Public", v.m.Name)
	}
}
