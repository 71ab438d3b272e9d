package pad_test

import (
	"bytes"
	"crypto/rsa"
	"encoding/hex"
	"slices"
	"testing"

	"bailey/api"
	"bailey/pad"
)

// P8.1: Info of every kind, as RFC 8017 lists it in the notes of section 9.2.
func TestInfo(t *testing.T) {
	for i, head := range []string{
		"30 21 30 09 06 05 2b 0e 03 02 1a 05 00 04 14",
		"30 2d 30 0d 06 09 60 86 48 01 65 03 04 02 04 05 00 04 1c",
		"30 31 30 0d 06 09 60 86 48 01 65 03 04 02 01 05 00 04 20",
		"30 41 30 0d 06 09 60 86 48 01 65 03 04 02 02 05 00 04 30",
		"30 51 30 0d 06 09 60 86 48 01 65 03 04 02 03 05 00 04 40",
	} {
		k := kinds[i]
		for _, hash := range [][]byte{make([]byte, k.size), some(1, k.size), bytes.Repeat([]byte{255}, k.size), k.hash([]byte("abc"))} {
			got, ok := pad.Info(k.kind, hash)
			if !ok {
				t.Fatalf("Info of the kind %d is false", k.kind)
			}
			same(t, got, append(fromHex(t, head), hash...), k.kind)
		}
	}
}

// P8.1: Info of hashes that are too short or too long, and of kinds that are
// not valid.
func TestInfoWrong(t *testing.T) {
	all := some(2, 300)
	for n := range all {
		for _, k := range kinds {
			if got, ok := pad.Info(k.kind, all[:n]); ok != (n == k.size) || !ok && got != nil {
				t.Fatalf("Info of the kind %d and %d bytes: %x, %v", k.kind, n, got, ok)
			}
		}
		for _, kind := range wrongKinds {
			if got, ok := pad.Info(kind, all[:n]); ok || got != nil {
				t.Fatalf("Info of the kind %d and %d bytes: %x, %v", kind, n, got, ok)
			}
		}
	}
	for _, kind := range append([]int{1, 2, 3, 4, 5}, wrongKinds...) {
		for _, hash := range [][]byte{nil, {}, make([]byte, 1<<20)} {
			if got, ok := pad.Info(kind, hash); ok || got != nil {
				t.Fatalf("Info of the kind %d and %d bytes: %x, %v", kind, len(hash), got, ok)
			}
		}
	}
}

// sign1 is the encoding of t in n bytes.
func sign1(n int, t []byte) []byte {
	return slices.Concat([]byte{0, 1}, bytes.Repeat([]byte{255}, n-3-len(t)), []byte{0}, t)
}

// P8.1: Sign1 of every n and t that fit, and of a t that is longer.
func TestSign1(t *testing.T) {
	all := some(3, 100)
	for n := 11; n < 100; n++ {
		for size := range all {
			got, rv := pad.Sign1(n, all[:size])
			if size > n-11 {
				refuses(t, got, rv, api.DataLenRange, n, size)
				continue
			}
			gives(t, got, rv, sign1(n, all[:size]), n, size)
		}
		got, rv := pad.Sign1(n, nil)
		gives(t, got, rv, sign1(n, nil), n, "nil")
		got, rv = pad.Sign1(n, make([]byte, 70000))
		refuses(t, got, rv, api.DataLenRange, n, "long")
	}
	got, rv := pad.Sign1(14, []byte("abc"))
	if text := hex.EncodeToString(got); text != "0001ffffffffffffffff00616263" || rv != api.OK {
		t.Errorf("%s, %#x", text, rv)
	}
}

// P8.1: n that is less than 11, and about 65,536; ArgumentsBad comes first.
func TestSign1Range(t *testing.T) {
	long := some(4, 70000)
	for _, n := range append([]int{2, 3, 7, 8, 9, 10}, tooFew...) {
		for _, m := range [][]byte{nil, {}, {1}, long[:11], long} {
			got, rv := pad.Sign1(n, m)
			refuses(t, got, rv, api.DataLenRange, n, len(m))
		}
	}
	for _, n := range tooMany {
		for _, m := range [][]byte{nil, {}, {1}, long[:65525], long[:65526], long[:65527], long} {
			got, rv := pad.Sign1(n, m)
			refuses(t, got, rv, api.ArgumentsBad, n, len(m))
		}
	}
	for _, n := range []int{65535, 65536} {
		for _, size := range []int{0, 1, 1000, n - 12, n - 11} {
			got, rv := pad.Sign1(n, long[:size])
			gives(t, got, rv, sign1(n, long[:size]), n, size)
		}
		for _, size := range []int{n - 10, n - 9, n, n + 1, len(long)} {
			got, rv := pad.Sign1(n, long[:size])
			refuses(t, got, rv, api.DataLenRange, n, size)
		}
	}
}

// P8.1: the signatures of another program, and what it says to those made of
// Sign1 and Info.
func TestSign1Signatures(t *testing.T) {
	key := otherKey(t, 1024)
	for _, k := range kinds {
		hash := k.hash([]byte("a message"))
		info, _ := pad.Info(k.kind, hash)
		em, rv := pad.Sign1(128, info)
		signature, err := rsa.SignPKCS1v15(nil, key, k.name, hash)
		if err != nil {
			t.Fatal(err)
		}
		gives(t, em, rv, public(key, signature, 128), k.kind)
		if err := rsa.VerifyPKCS1v15(&key.PublicKey, k.name, hash, private(key, em, 128)); err != nil {
			t.Errorf("%d: %v", k.kind, err)
		}
	}
}
