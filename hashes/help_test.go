package hashes_test

import (
	"bytes"
	"crypto/sha1"
	"crypto/sha256"
	"crypto/sha512"
	"encoding/hex"
	"hash"
	"math"
	"math/rand"
	"testing"

	"bailey/api"
)

// kinds are the kinds that are valid, with hashes that are not the program's.
var kinds = []struct {
	kind, size, block int
	other             func() hash.Hash
}{
	{api.SHA1, 20, 64, sha1.New},
	{api.SHA224, 28, 64, sha256.New224},
	{api.SHA256, 32, 64, sha256.New},
	{api.SHA384, 48, 128, sha512.New384},
	{api.SHA512, 64, 128, sha512.New},
}

// wrongKinds are some of the kinds that are not valid.
var wrongKinds = []int{0, -1, -3, 6, 7, 8, 256 + 1, 1<<32 + 3, math.MinInt, math.MaxInt}

// hashOf is the hash of b, by a hash that is not the program's.
func hashOf(other func() hash.Hash, b ...[]byte) []byte {
	h := other()
	for _, part := range b {
		h.Write(part)
	}
	return h.Sum(nil)
}

// some makes n bytes that follow from the seed.
func some(seed int64, n int) []byte {
	b := make([]byte, n)
	rand.New(rand.NewSource(seed)).Read(b)
	return b
}

// same fails the test if got is not want.
func same(t *testing.T, got, want []byte, what ...any) {
	t.Helper()
	if !bytes.Equal(got, want) {
		t.Fatalf("%v: got %d bytes %.64x, want %d bytes %.64x", what, len(got), got, len(want), want)
	}
}

// sameHex fails the test if got is not what text says.
func sameHex(t *testing.T, got []byte, text string, what ...any) {
	t.Helper()
	want, err := hex.DecodeString(text)
	if err != nil {
		t.Fatal(err)
	}
	same(t, got, want, what...)
}

// none fails the test if got is not nil.
func none(t *testing.T, got []byte, what ...any) {
	t.Helper()
	if got != nil {
		t.Fatalf("%v: got %d bytes %.64x, want nil", what, len(got), got)
	}
}
