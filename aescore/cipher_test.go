package aescore_test

import (
	"bytes"
	"crypto/aes"
	"testing"

	"bailey/aescore"
)

// both fails the test if the encryption of the block b, or the decryption of
// it, is not that of another AES.
func both(t *testing.T, key, b []byte, what ...any) {
	t.Helper()
	other, err := aes.NewCipher(key)
	if err != nil {
		t.Fatal(err)
	}
	c := newCipher(t, key)
	want := make([]byte, 16)
	other.Encrypt(want, b)
	same(t, c.Encrypt(b), want, append(what, "Encrypt")...)
	same(t, c.Decrypt(want), b, append(what, "Decrypt of that")...)
	other.Decrypt(want, b)
	same(t, c.Decrypt(b), want, append(what, "Decrypt")...)
	same(t, c.Encrypt(want), b, append(what, "Encrypt of that")...)
}

// P5.1: the chapter's example, and others of FIPS 197 (appendices B and C).
func TestExamples(t *testing.T) {
	for _, c := range []struct {
		key, plain, want string
	}{
		{example[:32], "00112233445566778899aabbccddeeff", "69c4e0d86a7b0430d8cdb78070b4c55a"},
		{example[:48], "00112233445566778899aabbccddeeff", "dda97ca4864cdfe06eaf70a0ec0d7191"},
		{example, "00112233445566778899aabbccddeeff", "8ea2b7ca516745bfeafc49904b496089"},
		{"2b7e151628aed2a6abf7158809cf4f3c", "3243f6a8885a308d313198a2e0370734", "3925841d02dc09fbdc118597196a0b32"},
	} {
		a := newCipher(t, fromHex(t, c.key))
		same(t, a.Encrypt(fromHex(t, c.plain)), fromHex(t, c.want), c)
		same(t, a.Decrypt(fromHex(t, c.want)), fromHex(t, c.plain), c)
	}
}

// P5.1: any keys and blocks.
func TestAny(t *testing.T) {
	for _, n := range keySizes {
		for i := range int64(500) {
			both(t, some(i, n), some(1000+i, 16), n, i)
		}
	}
}

// P5.1: each bit of the key and of the block by itself, and bytes that are all
// the same, of every value.
func TestBitsAndBytes(t *testing.T) {
	for _, n := range keySizes {
		for i := range 8 * n {
			key := make([]byte, n)
			key[i/8] = 1 << (i % 8)
			both(t, key, make([]byte, 16), n, "bit of the key", i)
		}
		for i := range 128 {
			both(t, make([]byte, n), bit(i), n, "bit of the block", i)
		}
		for x := range 256 {
			both(t, bytes.Repeat([]byte{byte(x)}, n), bytes.Repeat([]byte{byte(255 - x)}, 16), n, "bytes", x)
		}
	}
}

// P5.1: one cipher for many blocks, each made of the one before.
func TestChain(t *testing.T) {
	for _, n := range keySizes {
		other, err := aes.NewCipher(some(1, n))
		if err != nil {
			t.Fatal(err)
		}
		c := newCipher(t, some(1, n))
		first := some(2, 16)
		got, want := bytes.Clone(first), bytes.Clone(first)
		for i := range 3000 {
			other.Encrypt(want, want)
			got = c.Encrypt(got)
			same(t, got, want, n, i)
		}
		for range 3000 {
			got = c.Decrypt(got)
		}
		same(t, got, first, n, "back")
	}
}

// P5.1: keys of all other lengths are refused.
func TestKeyLengths(t *testing.T) {
	for n := range 600 {
		if got := aescore.New(make([]byte, n)) != nil; got != (n == 16 || n == 24 || n == 32) {
			t.Errorf("New of %d bytes is a cipher: %v", n, got)
		}
	}
	for _, key := range [][]byte{nil, {}, make([]byte, 0, 16), make([]byte, 15, 16), make([]byte, 17, 32), some(3, 65536), make([]byte, 1<<20+16)} {
		if aescore.New(key) != nil {
			t.Errorf("New of %d bytes is a cipher", len(key))
		}
	}
}

// P5.1: blocks of all other lengths are refused.
func TestBlockLengths(t *testing.T) {
	for _, n := range keySizes {
		c := newCipher(t, some(4, n))
		want := c.Encrypt(make([]byte, 16))
		for m := range 200 {
			if m != 16 {
				none(t, c.Encrypt(make([]byte, m)), n, m)
				none(t, c.Decrypt(make([]byte, m)), n, m)
			}
		}
		for _, b := range [][]byte{nil, {}, make([]byte, 0, 16), make([]byte, 15, 16), make([]byte, 17), some(5, 65536)} {
			none(t, c.Encrypt(b), n, len(b))
			none(t, c.Decrypt(b), n, len(b))
		}
		same(t, c.Encrypt(make([]byte, 16)), want, n, "behind")
	}
}

// P5.3: a nil cipher, in every method.
func TestNil(t *testing.T) {
	nothing(t, nil)
	nothing(t, aescore.New(nil))
}

// P0.1: a cipher that New did not make.
func TestZeroValue(t *testing.T) {
	nothing(t, &aescore.Cipher{})
}

// nothing fails the test if the cipher gives anything.
func nothing(t *testing.T, c *aescore.Cipher) {
	t.Helper()
	for _, b := range [][]byte{nil, {}, make([]byte, 15), make([]byte, 16), make([]byte, 17), some(6, 1000)} {
		none(t, c.Encrypt(b), len(b))
		none(t, c.Decrypt(b), len(b))
	}
	each := c.Keys()
	if each == nil {
		t.Fatal("Keys is nil")
	}
	for range 3 {
		for i, key := range each {
			t.Fatalf("Keys yields %d, %x", i, key)
		}
	}
}
