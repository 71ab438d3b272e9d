package pad_test

import (
	"bytes"
	"crypto/rsa"
	"math"
	"slices"
	"testing"

	"bailey/api"
	"bailey/pad"
)

// P8.3: the intermediate values that RSA Laboratories published for RSAES-OAEP.
func TestOAEPVector(t *testing.T) {
	m := fromHex(t, "d436e99569fd32a7c8a05bbc90d32c49")
	seed := fromHex(t, "aafd12f659cae63489b479e5076ddec2f06cb58f")
	em := fromHex(t, "00eb7a19ace9e3006350e329504b45e2ca82310b26"+
		"dcd87d5c68f1eea8f55267c31b2e8bb4251f84d7e0b2c04626f5aff93edcfb25c9c2b3ff8ae10e839a2ddb4cdcfe4ff4"+
		"7728b4a1b7c1362baad29ab48d2869d5024121435811591be392f982fb3e87d095aeb40448db972f3ac14f7bc2751952"+
		"81ce32d2f1b76d4d353e2d")
	got, rv := pad.EncOAEP(api.SHA1, 128, nil, seed, m)
	gives(t, got, rv, em)
	got, rv = pad.DecOAEP(api.SHA1, nil, em)
	gives(t, got, rv, m)
}

// P8.3: EncOAEP of every kind and of n, labels and messages of many lengths,
// and DecOAEP of what it returns.
func TestOAEP(t *testing.T) {
	labels := [][]byte{nil, {}, {0}, []byte("label"), some(40, 64), some(41, 1000)}
	for _, k := range kinds {
		least := 2*k.size + 2
		for n := least; n < least+70; n += 3 {
			for size := 0; size <= n-least; size += 1 + size/5 {
				for i, m := range [][]byte{some(42, size), make([]byte, size), bytes.Repeat([]byte{1}, size)} {
					label, seed := labels[(n+size+i)%len(labels)], some(int64(n), k.size)
					want := k.oaep(0, seed, k.oaepBlock(n, label, m))
					got, rv := pad.EncOAEP(k.kind, n, label, seed, m)
					gives(t, got, rv, want, k.kind, n, size)
					got, rv = pad.DecOAEP(k.kind, label, want)
					gives(t, got, rv, m, k.kind, n, size)
				}
			}
		}
	}
}

// P8.3: a message that is as long as fits, and one that is a byte longer; n
// about its least, about 65,536 and far from both; which error comes first.
func TestEncOAEPRange(t *testing.T) {
	long := some(43, 70000)
	for _, k := range kinds {
		seed := some(44, k.size)
		least := 2*k.size + 2
		for _, n := range []int{least, least + 1, least + 20, 65535, 65536} {
			for _, size := range []int{0, n - least - 1, n - least} {
				if size < 0 {
					continue
				}
				got, rv := pad.EncOAEP(k.kind, n, []byte("l"), seed, long[:size])
				gives(t, got, rv, k.oaep(0, seed, k.oaepBlock(n, []byte("l"), long[:size])), k.kind, n, size)
			}
			for _, size := range []int{n - least + 1, n - least + 2, n, len(long)} {
				got, rv := pad.EncOAEP(k.kind, n, []byte("l"), seed, long[:size])
				refuses(t, got, rv, api.DataLenRange, k.kind, n, size)
			}
		}
		for _, n := range append([]int{2, k.size, 2 * k.size, least - 1}, tooFew...) {
			for _, m := range [][]byte{nil, {}, {1}, long} {
				got, rv := pad.EncOAEP(k.kind, n, nil, seed, m)
				refuses(t, got, rv, api.DataLenRange, k.kind, n, len(m))
			}
		}
		for _, n := range tooMany {
			for _, m := range [][]byte{nil, {}, {1}, long} {
				got, rv := pad.EncOAEP(k.kind, n, nil, seed, m)
				refuses(t, got, rv, api.ArgumentsBad, k.kind, n, len(m))
			}
		}
	}
}

// P8.3: seeds of a wrong length and kinds that are not valid, whatever n and m
// are.
func TestEncOAEPArguments(t *testing.T) {
	all := some(45, 300)
	for _, n := range []int{math.MinInt, -1, 0, 42, 90, 200, 65536, 65537, math.MaxInt} {
		for _, m := range [][]byte{nil, {1}, all} {
			for size := range all {
				for _, k := range kinds {
					if size != k.size {
						got, rv := pad.EncOAEP(k.kind, n, nil, all[:size], m)
						refuses(t, got, rv, api.ArgumentsBad, k.kind, n, size)
					}
				}
			}
			for _, kind := range wrongKinds {
				for _, size := range []int{0, 1, 20, 28, 32, 48, 64} {
					got, rv := pad.EncOAEP(kind, n, nil, all[:size], m)
					refuses(t, got, rv, api.ArgumentsBad, kind, n, size)
				}
			}
			got, rv := pad.EncOAEP(api.SHA1, n, nil, make([]byte, 1<<20), m)
			refuses(t, got, rv, api.ArgumentsBad, n, "a long seed")
		}
	}
}

// P8.3: DecOAEP of encodings that are spoilt at each byte, cut short or
// lengthened at either end, or have another label or kind.
func TestDecOAEPSpoilt(t *testing.T) {
	for _, k := range kinds {
		n := 2*k.size + 2 + 12
		for _, m := range [][]byte{nil, []byte("message"), some(46, 12)} {
			em := k.oaep(0, some(47, k.size), k.oaepBlock(n, []byte("label"), m))
			bad := func(kind int, label, em []byte, what ...any) {
				t.Helper()
				got, rv := pad.DecOAEP(kind, label, em)
				refuses(t, got, rv, api.EncryptedInvalid, append(what, k.kind, len(m))...)
			}
			got, rv := pad.DecOAEP(k.kind, []byte("label"), em)
			gives(t, got, rv, m, k.kind)
			for i := range em {
				for _, x := range []byte{1, 2, 0x80, 0xff} {
					other := bytes.Clone(em)
					other[i] ^= x
					bad(k.kind, []byte("label"), other, "spoilt at", i, x)
				}
			}
			for i := range em {
				bad(k.kind, []byte("label"), em[:i], "cut to", i)
				bad(k.kind, []byte("label"), em[len(em)-i:], "cut to the last", i)
			}
			bad(k.kind, []byte("label"), append(bytes.Clone(em), 0), "lengthened")
			bad(k.kind, []byte("label"), append([]byte{0}, em...), "lengthened")
			for _, label := range [][]byte{nil, {}, []byte("labe"), []byte("label2"), []byte("Label"), []byte("label\x00"), k.hash([]byte("label"))} {
				bad(k.kind, label, em, "with the label", label)
			}
			for _, other := range kinds {
				if other.kind != k.kind {
					bad(other.kind, []byte("label"), em, "of the kind", other.kind)
				}
			}
		}
	}
}

// P8.3: each part of what an encoding hides, spoilt while all else is right.
func TestDecOAEPBlock(t *testing.T) {
	for _, k := range kinds {
		seed := some(48, k.size)
		block := k.oaepBlock(2*k.size+2+30, nil, []byte("message"))
		place := k.size + 23 // of the 01
		dec := func(first byte, block []byte) ([]byte, api.RV) {
			return pad.DecOAEP(k.kind, nil, k.oaep(first, seed, block))
		}
		got, rv := dec(0, block)
		gives(t, got, rv, []byte("message"), k.kind)
		for first := 1; first < 256; first++ {
			got, rv := dec(byte(first), block)
			refuses(t, got, rv, api.EncryptedInvalid, k.kind, "it begins with", first)
		}
		for i := range place + 1 {
			for x := range 256 {
				other := bytes.Clone(block)
				other[i] = byte(x)
				got, rv := dec(0, other)
				switch {
				case other[i] == block[i]:
					gives(t, got, rv, []byte("message"), k.kind, i, x)
				case i >= k.size && i < place && x == 1: // the message begins earlier
					gives(t, got, rv, other[i+1:], k.kind, i, x)
				default:
					refuses(t, got, rv, api.EncryptedInvalid, k.kind, i, x)
				}
			}
		}
		zeros := append(k.hash(nil), make([]byte, 31)...)
		got, rv = dec(0, zeros)
		refuses(t, got, rv, api.EncryptedInvalid, k.kind, "no 01")
		zeros[len(zeros)-1] = 1
		got, rv = dec(0, zeros)
		gives(t, got, rv, nil, k.kind, "01 at the end")
		zeros[len(zeros)-1] = 2
		got, rv = dec(0, zeros)
		refuses(t, got, rv, api.EncryptedInvalid, k.kind, "02 at the end")
		got, rv = dec(0, append(k.hash(nil), 1))
		gives(t, got, rv, nil, k.kind, "nothing but 01")
		got, rv = dec(0, append(k.hash(nil), 0))
		refuses(t, got, rv, api.EncryptedInvalid, k.kind, "nothing but 00")
		got, rv = dec(0, k.hash(nil))
		refuses(t, got, rv, api.EncryptedInvalid, k.kind, "nothing but the label's hash")
	}
}

// P8.3: DecOAEP of 65,536 bytes and of one more, which is an encoding too, of
// few bytes, and of kinds that are not valid.
func TestDecOAEPRange(t *testing.T) {
	for _, k := range kinds {
		for _, m := range [][]byte{nil, some(49, 1000), some(50, 65536-2*k.size-2)} {
			seed := some(51, k.size)
			em := k.oaep(0, seed, k.oaepBlock(65536, nil, m))
			got, rv := pad.DecOAEP(k.kind, nil, em)
			gives(t, got, rv, m, k.kind, len(m))
			em = k.oaep(0, seed, k.oaepBlock(65537, nil, m))
			got, rv = pad.DecOAEP(k.kind, nil, em)
			refuses(t, got, rv, api.EncryptedInvalid, k.kind, len(m), "65,537 bytes")
		}
		for n := range 2*k.size + 2 {
			for _, em := range [][]byte{make([]byte, n), some(52, n)} {
				got, rv := pad.DecOAEP(k.kind, nil, em)
				refuses(t, got, rv, api.EncryptedInvalid, k.kind, n)
			}
		}
		for _, em := range [][]byte{make([]byte, 1<<20), make([]byte, 2*k.size+2), make([]byte, 65536), bytes.Repeat([]byte{255}, 300)} {
			got, rv := pad.DecOAEP(k.kind, nil, em)
			refuses(t, got, rv, api.EncryptedInvalid, k.kind, len(em))
		}
	}
	for _, kind := range wrongKinds {
		for _, em := range [][]byte{nil, {}, {0}, {0, 0}, {0, 1}, make([]byte, 90), make([]byte, 65536), make([]byte, 65537), make([]byte, 1<<20)} {
			got, rv := pad.DecOAEP(kind, nil, em)
			refuses(t, got, rv, api.ArgumentsBad, kind, len(em))
		}
	}
}

// P8.3: the example.
func TestOAEPExample(t *testing.T) {
	label, m := []byte("label"), some(53, 48)
	em, rv := pad.EncOAEP(api.SHA1, 90, label, some(54, 20), m)
	if rv != api.OK || len(em) != 90 {
		t.Fatalf("%x, %#x", em, rv)
	}
	got, rv := pad.DecOAEP(api.SHA1, label, em)
	gives(t, got, rv, m)
	got, rv = pad.DecOAEP(api.SHA1, []byte("other"), em)
	refuses(t, got, rv, api.EncryptedInvalid)
}

// P8.3: the ciphertexts of another program, and what it makes of those from
// EncOAEP.
func TestOAEPCiphertexts(t *testing.T) {
	key := otherKey(t, 1160)
	for _, k := range kinds {
		for _, label := range [][]byte{nil, []byte("label")} {
			for _, m := range [][]byte{nil, []byte("m"), some(55, 145-2*k.size-2)} {
				text, err := rsa.EncryptOAEP(k.other(), reader(56), &key.PublicKey, m, label)
				if err != nil {
					t.Fatal(err)
				}
				got, rv := pad.DecOAEP(k.kind, label, private(key, text, 145))
				gives(t, got, rv, m, k.kind, len(m))
				em, rv := pad.EncOAEP(k.kind, 145, label, some(57, k.size), m)
				if rv != api.OK {
					t.Fatal(rv)
				}
				back, err := rsa.DecryptOAEP(k.other(), nil, key, public(key, em, 145), label)
				if err != nil || !slices.Equal(back, m) {
					t.Fatalf("%d: %x, %v", k.kind, back, err)
				}
			}
		}
	}
}
