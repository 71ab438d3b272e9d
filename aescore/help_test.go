package aescore_test

import (
	"bytes"
	"encoding/hex"
	"math/big"
	"math/rand"
	"testing"

	"bailey/aescore"
)

// keySizes are the lengths of a key that are right.
var keySizes = []int{16, 24, 32}

// example is the key of FIPS 197's examples, up to its longest form.
const example = "000102030405060708090a0b0c0d0e0f101112131415161718191a1b1c1d1e1f"

// newCipher is New of a key that is right.
func newCipher(t *testing.T, key []byte) *aescore.Cipher {
	t.Helper()
	c := aescore.New(key)
	if c == nil {
		t.Fatalf("New of %d bytes returns nil", len(key))
	}
	return c
}

// some makes n bytes that follow from the seed.
func some(seed int64, n int) []byte {
	b := make([]byte, n)
	rand.New(rand.NewSource(seed)).Read(b)
	return b
}

// bit is a block of which only the bit i is 1.
func bit(i int) []byte {
	b := make([]byte, 16)
	b[i/8] = 0x80 >> (i % 8)
	return b
}

// same fails the test if got is not want.
func same(t *testing.T, got, want []byte, what ...any) {
	t.Helper()
	if !bytes.Equal(got, want) {
		t.Fatalf("%v: got %d bytes %.64x, want %d bytes %.64x", what, len(got), got, len(want), want)
	}
}

// none fails the test if got is not nil.
func none(t *testing.T, got []byte, what ...any) {
	t.Helper()
	if got != nil {
		t.Fatalf("%v: got %d bytes %.64x, want nil", what, len(got), got)
	}
}

// fromHex are the bytes that text says.
func fromHex(t *testing.T, text string) []byte {
	t.Helper()
	b, err := hex.DecodeString(text)
	if err != nil {
		t.Fatal(err)
	}
	return b
}

// keysOf are what an iterator over round keys yields; it fails the test if
// their indices are not 0, 1 and so on.
func keysOf(t *testing.T, each func(func(int, []byte) bool), what ...any) (list [][]byte) {
	t.Helper()
	for i, key := range each {
		if i != len(list) {
			t.Fatalf("%v: index %d where %d is due", what, i, len(list))
		}
		list = append(list, key)
	}
	return list
}

// sameKeys fails the test if got is not want.
func sameKeys(t *testing.T, got, want [][]byte, what ...any) {
	t.Helper()
	if len(got) != len(want) {
		t.Fatalf("%v: %d round keys, want %d", what, len(got), len(want))
	}
	for i := range got {
		same(t, got[i], want[i], append(what, "round key", i)...)
	}
}

// modelKeys are the round keys by FIPS 197, word by word, on an S-box that is
// worked out from its definition.
func modelKeys(key []byte) (list [][]byte) {
	var words [][]byte
	for i := 0; i < len(key); i += 4 {
		words = append(words, key[i:i+4])
	}
	n, mark := len(words), 1
	for i := n; i < 4*(n+7); i++ {
		last := words[i-1]
		next := make([]byte, 4)
		for j := range next {
			b := last[j]
			switch {
			case i%n == 0:
				b = modelBox(last[(j+1)%4])
			case n > 6 && i%n == 4:
				b = modelBox(b)
			}
			next[j] = words[i-n][j] ^ b
		}
		if i%n == 0 {
			next[0] ^= byte(mark)
			mark = modelTimes8(mark, 2)
		}
		words = append(words, next)
	}
	for i := 0; i < len(words); i += 4 {
		list = append(list, bytes.Join(words[i:i+4], nil))
	}
	return list
}

// modelTimes8 is the product of a and b in GF(2^8).
func modelTimes8(a, b int) (z int) {
	for i := range 8 {
		if b>>i&1 == 1 {
			z ^= a << i
		}
	}
	for i := 15; i >= 8; i-- {
		if z>>i&1 == 1 {
			z ^= 0x11b << (i - 8)
		}
	}
	return z
}

// modelBox is the S-box of b: of its inverse b^254, each bit with four others,
// and a constant.
func modelBox(b byte) byte {
	inverse := 1
	for range 254 {
		inverse = modelTimes8(inverse, int(b))
	}
	z := 0x63
	for i := range 5 {
		z ^= inverse<<i&0xff | inverse>>(8-i)
	}
	return byte(z)
}

// toPolynomial is a block as a number whose bit i is the coefficient of x^i.
func toPolynomial(b []byte) *big.Int {
	z := new(big.Int)
	for i := range 128 {
		z.SetBit(z, i, uint(b[i/8]>>(7-i%8)&1))
	}
	return z
}

// modelTimes is the product of two blocks in GF(2^128): the product of the two
// polynomials, less multiples of x^128 + x^7 + x^2 + x + 1.
func modelTimes(x, y []byte) []byte {
	a, b, z := toPolynomial(x), toPolynomial(y), new(big.Int)
	for i := range 128 {
		if a.Bit(i) == 1 {
			z.Xor(z, new(big.Int).Lsh(b, uint(i)))
		}
	}
	whole := new(big.Int).SetBit(big.NewInt(0x87), 128, 1)
	for i := z.BitLen() - 1; i >= 128; i-- {
		if z.Bit(i) == 1 {
			z.Xor(z, new(big.Int).Lsh(whole, uint(i-128)))
		}
	}
	out := make([]byte, 16)
	for i := range 128 {
		out[i/8] |= byte(z.Bit(i)) << (7 - i%8)
	}
	return out
}

// modelGHASH is GHASH on modelTimes.
func modelGHASH(h, b []byte) []byte {
	b = append(bytes.Clone(b), make([]byte, (16-len(b)%16)%16)...)
	y := make([]byte, 16)
	for ; len(b) > 0; b = b[16:] {
		for i := range y {
			y[i] ^= b[i]
		}
		y = modelTimes(y, h)
	}
	return y
}
