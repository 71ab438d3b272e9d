package pad_test

import (
	"bytes"
	"crypto"
	"crypto/rsa"
	"crypto/sha1"
	"crypto/sha256"
	"crypto/sha512"
	"encoding/binary"
	"encoding/hex"
	"hash"
	"io"
	"iter"
	"math"
	"math/big"
	"math/rand"
	"slices"
	"strings"
	"testing"

	"bailey/api"
)

// hashKind is a kind that is valid, with a hash that is not the program's.
type hashKind struct {
	kind, size int
	other      func() hash.Hash
	name       crypto.Hash
}

var kinds = []hashKind{
	{api.SHA1, 20, sha1.New, crypto.SHA1},
	{api.SHA224, 28, sha256.New224, crypto.SHA224},
	{api.SHA256, 32, sha256.New, crypto.SHA256},
	{api.SHA384, 48, sha512.New384, crypto.SHA384},
	{api.SHA512, 64, sha512.New, crypto.SHA512},
}

// wrongKinds are some of the kinds that are not valid.
var wrongKinds = []int{0, -1, -3, 6, 7, 8, 256 + 1, 1<<32 + 3, math.MinInt, math.MaxInt}

// tooMany are numbers of bytes or bits that are too great for every encoding,
// and tooFew numbers of bytes that are too small.
var (
	tooMany = []int{65537, 65538, 65544, 1 << 20, 1 << 32, 1<<32 + 200, math.MaxInt - 7, math.MaxInt}
	tooFew  = []int{math.MinInt, math.MinInt + 1, math.MinInt + 11, math.MinInt + 200, -1 << 32, -65536, -65, -11, -1, 0, 1}
)

// hash is the hash of the parts.
func (k hashKind) hash(parts ...[]byte) []byte {
	h := k.other()
	for _, part := range parts {
		h.Write(part)
	}
	return h.Sum(nil)
}

// mask is MGF1 of seed, XOR b.
func (k hashKind) mask(b, seed []byte) []byte {
	var mask []byte
	for i := uint32(0); len(mask) < len(b); i++ {
		mask = append(mask, k.hash(seed, binary.BigEndian.AppendUint32(nil, i))...)
	}
	out := bytes.Clone(b)
	for i := range out {
		out[i] ^= mask[i]
	}
	return out
}

// oaep is the OAEP encoding, with first at its beginning, of a block that is
// handed in whole.
func (k hashKind) oaep(first byte, seed, block []byte) []byte {
	hidden := k.mask(block, seed)
	return slices.Concat([]byte{first}, k.mask(seed, hidden), hidden)
}

// oaepBlock is what oaep hides in n bytes for a message.
func (k hashKind) oaepBlock(n int, label, m []byte) []byte {
	zeros := make([]byte, n-2*k.size-2-len(m))
	return slices.Concat(k.hash(label), zeros, []byte{1}, m)
}

// pss is the PSS encoding of so many bits, with the trailer at its end, of a
// block and a salted hash that are handed in.
func (k hashKind) pss(bits int, block, salted []byte, trailer byte) []byte {
	out := k.mask(block, salted)
	for i := range unused(bits) {
		out[0] &^= 0x80 >> i
	}
	return slices.Concat(out, salted, []byte{trailer})
}

// unused is how many bits of the first byte are none of the encoding's.
func unused(bits int) int {
	return (8 - bits%8) % 8
}

// pssBlock is what pss hides for a salt.
func (k hashKind) pssBlock(bits int, salt []byte) []byte {
	zeros := make([]byte, (bits+7)/8-k.size-len(salt)-2)
	return slices.Concat(zeros, []byte{1}, salt)
}

// salted is the hash of a hash and a salt, as PSS has it.
func (k hashKind) salted(hash, salt []byte) []byte {
	return k.hash(make([]byte, 8), hash, salt)
}

// some makes n bytes that follow from the seed.
func some(seed int64, n int) []byte {
	b := make([]byte, n)
	rand.New(rand.NewSource(seed)).Read(b)
	return b
}

// reader gives bytes that follow from the seed.
func reader(seed int64) io.Reader {
	return rand.New(rand.NewSource(seed))
}

// nonzero makes n bytes, none of which is zero.
func nonzero(seed int64, n int) []byte {
	b := some(seed, n)
	for i := range b {
		b[i] |= 1 << (i % 8)
	}
	return b
}

// fromHex are the bytes that text says.
func fromHex(t *testing.T, text string) []byte {
	t.Helper()
	b, err := hex.DecodeString(strings.ReplaceAll(text, " ", ""))
	if err != nil {
		t.Fatal(err)
	}
	return b
}

// same fails the test if got is not want.
func same(t *testing.T, got, want []byte, what ...any) {
	t.Helper()
	if !bytes.Equal(got, want) {
		t.Fatalf("%v: got %d bytes %.64x, want %d bytes %.64x", what, len(got), got, len(want), want)
	}
}

// gives fails the test if a call did not return want and OK.
func gives(t *testing.T, got []byte, rv api.RV, want []byte, what ...any) {
	t.Helper()
	if rv != api.OK {
		t.Fatalf("%v: %#x, want OK", what, rv)
	}
	same(t, got, want, what...)
}

// refuses fails the test if a call did not return nil and want.
func refuses(t *testing.T, got []byte, rv, want api.RV, what ...any) {
	t.Helper()
	if got != nil || rv != want {
		t.Fatalf("%v: %d bytes %.64x, %#x, want none and %#x", what, len(got), got, rv, want)
	}
}

// source counts how often an iterator is used and what is taken from it.
type source struct{ uses, taken int }

// of is an iterator over the bytes of b.
func (s *source) of(b []byte) iter.Seq[byte] {
	return func(yield func(byte) bool) {
		s.uses++
		for _, x := range b {
			s.taken++
			if !yield(x) {
				return
			}
		}
	}
}

// endless is an iterator over the bytes of b, from the first one again behind
// the last one.
func (s *source) endless(b []byte) iter.Seq[byte] {
	return func(yield func(byte) bool) {
		s.uses++
		for ; ; s.taken++ {
			if !yield(b[s.taken%len(b)]) {
				s.taken++
				return
			}
		}
	}
}

// took fails the test if the iterator was not used so often, or something else
// was taken.
func (s *source) took(t *testing.T, uses, taken int, what ...any) {
	t.Helper()
	if s.uses != uses || s.taken != taken {
		t.Fatalf("%v: %d bytes taken in %d uses, want %d in %d", what, s.taken, s.uses, taken, uses)
	}
}

// otherKey makes a key of another program's, of so many bits.
func otherKey(t *testing.T, bits int) *rsa.PrivateKey {
	t.Helper()
	r := rand.New(rand.NewSource(int64(bits)))
	prime := func(n int) *big.Int {
		p := new(big.Int).SetBytes(some(r.Int63(), (n+7)/8))
		p.Rsh(p, uint(8*((n+7)/8)-n))
		p.SetBit(p.SetBit(p.SetBit(p, n-1, 1), n-2, 1), 0, 1)
		for !p.ProbablyPrime(10) {
			p.Add(p, big.NewInt(2))
		}
		return p
	}
	one := big.NewInt(1)
	for {
		p, q := prime(bits/2), prime(bits-bits/2)
		order := new(big.Int).Mul(new(big.Int).Sub(p, one), new(big.Int).Sub(q, one))
		k := &rsa.PrivateKey{Primes: []*big.Int{p, q}, D: new(big.Int).ModInverse(big.NewInt(65537), order)}
		k.N, k.E = new(big.Int).Mul(p, q), 65537
		if k.D == nil || k.N.BitLen() != bits {
			continue
		}
		k.Precompute()
		return k
	}
}

// public is b to the power of the public exponent, and private the reverse, in
// n bytes each.
func public(k *rsa.PrivateKey, b []byte, n int) []byte {
	return power(b, big.NewInt(int64(k.E)), k.N, n)
}

func private(k *rsa.PrivateKey, b []byte, n int) []byte {
	return power(b, k.D, k.N, n)
}

func power(b []byte, e, modulus *big.Int, n int) []byte {
	x := new(big.Int).SetBytes(b)
	return x.Exp(x, e, modulus).FillBytes(make([]byte, n))
}
