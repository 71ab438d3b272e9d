package ecdsa_test

import (
	"bytes"
	other "crypto/ecdsa"
	"math/big"
	"slices"
	"testing"

	"bailey/api"
	"bailey/drbg"
	"bailey/ecdsa"
)

// signs fails the test if Sign does not return what the model does, off the
// same place of the same tape, or takes something else off the generator.
func signs(t *testing.T, m model, key *big.Int, writing api.Nat, hash []byte, tape string, tries int) []byte {
	t.Helper()
	d, twin := drbg.New([]byte(tape)), drbg.New([]byte(tape))
	got, rv := ecdsa.Sign(m.c, writing, hash, d)
	want, wantTries := m.sign(key, hash, twin)
	gives(t, got, rv, want, "Sign", m.Name, key, hash, tape)
	if wantTries != tries || d.Left() != tries {
		t.Fatalf("Sign(%s, %x, %x) off %s takes %d of the generator, want %d and %d", m.Name, key, hash, tape, d.Left(), wantTries, tries)
	}
	took(t, d, twin, "Sign", m.Name, key, hash, tape)
	return got
}

// P10.2: Sign of hashes of every length, against a model that takes its numbers
// off a second generator of the same tape.
func TestSign(t *testing.T) {
	for _, m := range models {
		key := m.key(10)
		for n := range 80 {
			signs(t, m, key, fromBig(key), some(int64(n), n), "tape", 1)
		}
		for _, hash := range append(hashes("text"), some(11, 100_000)) {
			signs(t, m, key, fromBig(key), hash, "another tape", 1)
		}
	}
}

// P10.2: Sign with keys at the ends of their range and others, in every way to
// write them.
func TestSignKeys(t *testing.T) {
	for _, m := range models {
		for _, key := range m.edgeKeys() {
			for i, writing := range long(key) {
				signs(t, m, key, writing, some(12, 20+15*i), "keys", 1)
			}
		}
	}
}

// P10.2: Sign of hashes of nothing, of zeros, and of numbers about the order
// and above it.
func TestSignHashes(t *testing.T) {
	for _, m := range models {
		key := m.key(13)
		ones := bytes.Repeat([]byte{0xff}, m.size)
		for _, hash := range [][]byte{
			nil, {}, {0}, make([]byte, m.size-1), make([]byte, m.size), make([]byte, m.size+1), make([]byte, 1000),
			ones, ones[1:], append(bytes.Clone(ones), 0xff), append(bytes.Clone(ones), make([]byte, 40)...),
			m.bytes(plus(m.N, -1)), m.bytes(m.N), m.bytes(plus(m.N, 1)), m.bytes(m.N, m.N), m.bytes(m.P),
			append(make([]byte, m.size), ones...), {1}, {0, 1}, {1, 0}, m.bytes(big.NewInt(1)),
		} {
			signs(t, m, key, fromBig(key), hash, "hashes", 1)
		}
	}
}

// P10.2: Sign off one generator, again and again, takes one k after the other.
func TestSignAgain(t *testing.T) {
	d, twin := drbg.New([]byte("again")), drbg.New([]byte("again"))
	seen := map[string]bool{}
	for i := range 20 {
		m := models[i%2]
		got, rv := ecdsa.Sign(m.c, fromBig(m.key(14)), []byte("hash"), d)
		want, _ := m.sign(m.key(14), []byte("hash"), twin)
		gives(t, got, rv, want, "Sign", m.Name, i)
		if seen[string(got)] || d.Left() != i+1 {
			t.Fatal(m.Name, i, d.Left())
		}
		seen[string(got)] = true
	}
	took(t, d, twin, "Sign again")
}

// P10.2: where s is 0, Sign goes on to the next k. The hash is made so that it
// is, for the first k of the tape.
func TestSignGoesOn(t *testing.T) {
	for _, m := range models {
		for i, tape := range []string{"one", "two", "three", "four", "five"} {
			key := m.edgeKeys()[i]
			r := m.reduce(m.fold(m.draw(drbg.New([]byte(tape)))).x)
			z := m.minus(m.times(r, key))
			sig := signs(t, m, key, fromBig(key), m.bytes(z), tape, 2)
			if bytes.Equal(sig[:m.size], m.bytes(r)) {
				t.Fatal(m.Name, tape)
			}
			if !ecdsa.Verify(m.c, m.fold(key).point(), m.bytes(z), sig) {
				t.Fatal("Verify", m.Name, tape)
			}
			signs(t, m, key, fromBig(key), append(m.bytes(z), 1, 2, 3), tape, 2)
			signs(t, m, key, fromBig(key), m.bytes(m.reduce(plus(z, 1))), tape, 1)
		}
	}
}

// P10.2: another implementation takes what Sign returns.
func TestSignAnother(t *testing.T) {
	d := drbg.New([]byte("another"))
	for _, m := range models {
		for i := range 6 {
			key, p, _ := ecdsa.Generate(m.c, d)
			pub := &other.PublicKey{Curve: m.curve, X: toBig(p.X), Y: toBig(p.Y)}
			for _, hash := range hashes("a text " + string(rune('a'+i))) {
				sig, rv := ecdsa.Sign(m.c, key, hash, d)
				if rv != api.OK || len(sig) != 2*m.size {
					t.Fatal(m.Name, rv, sig)
				}
				r, s := new(big.Int).SetBytes(sig[:m.size]), new(big.Int).SetBytes(sig[m.size:])
				if !other.Verify(pub, hash, r, s) || !ecdsa.Verify(m.c, p, hash, sig) {
					t.Fatal(m.Name, hash, sig)
				}
			}
		}
	}
}

// P10.2: a curve that is not valid, numbers that are no private keys, a nil
// generator, and more than one of these: ArgumentsBad, and nothing is taken.
func TestSignWrong(t *testing.T) {
	d, twin := drbg.New([]byte("wrong")), drbg.New([]byte("wrong"))
	for _, m := range models {
		for _, hash := range [][]byte{nil, some(15, 32), some(15, 100)} {
			for _, key := range m.notKeys() {
				for _, writing := range long(key) {
					for _, d := range []*drbg.DRBG{d, nil} {
						got, rv := ecdsa.Sign(m.c, writing, hash, d)
						refuses(t, got, rv, api.ArgumentsBad, "Sign", m.Name, key)
					}
				}
			}
			for _, key := range m.edgeKeys() {
				got, rv := ecdsa.Sign(m.c, fromBig(key), hash, nil)
				refuses(t, got, rv, api.ArgumentsBad, "Sign without a generator", m.Name, key)
			}
			for _, c := range wrongCurves {
				for _, key := range slices.Concat(m.edgeKeys(), m.notKeys()) {
					for _, d := range []*drbg.DRBG{d, nil} {
						got, rv := ecdsa.Sign(c, fromBig(key), hash, d)
						refuses(t, got, rv, api.ArgumentsBad, "Sign", c, key)
					}
				}
			}
		}
		took(t, d, twin, "Sign refused", m.Name)
	}
}

// P10.2: a signature whose r or s begins with zeros has Size bytes for each.
func TestSignShort(t *testing.T) {
	for _, m := range models {
		key, twin := m.key(16), drbg.New([]byte("short"))
		var r, s int
		for i := range 4000 {
			before := *twin
			want, _ := m.sign(key, []byte("hash"), twin)
			if want[0] != 0 && want[m.size] != 0 {
				continue
			}
			if want[0] == 0 {
				r++
			} else {
				s++
			}
			got, rv := ecdsa.Sign(m.c, fromBig(key), []byte("hash"), &before)
			gives(t, got, rv, want, "Sign", m.Name, i)
			if !ecdsa.Verify(m.c, m.fold(key).point(), []byte("hash"), got) {
				t.Fatal("Verify", m.Name, i)
			}
			if r > 2 && s > 2 {
				break
			}
		}
		if r == 0 || s == 0 {
			t.Fatal("no number begins with zeros", m.Name)
		}
	}
}
