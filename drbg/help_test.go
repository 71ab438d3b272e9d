package drbg_test

import (
	"bytes"
	"crypto/hmac"
	"crypto/sha256"
	"encoding/hex"
	"math"
	"math/big"
	"math/rand"
	"testing"

	"bailey/api"
	"bailey/drbg"
)

// wrongSizes are numbers of bytes that Bytes refuses.
var wrongSizes = []int{0, -1, -2, -32, -65536, math.MinInt, math.MinInt + 1, 65537, 65568, 1 << 20, 1 << 32, 1<<32 + 1, math.MaxInt - 1, math.MaxInt}

// model is the generator of the chapter, on hashes and numbers that are not the
// program's.
type model struct {
	k, v []byte
	left int
}

func newModel(entropy []byte) *model {
	m := &model{k: make([]byte, 32), v: bytes.Repeat([]byte{1}, 32)}
	m.update(entropy)
	return m
}

func (m *model) hmac(parts ...[]byte) []byte {
	h := hmac.New(sha256.New, m.k)
	for _, part := range parts {
		h.Write(part)
	}
	return h.Sum(nil)
}

func (m *model) update(data []byte) {
	m.k = m.hmac(m.v, []byte{0}, data)
	m.v = m.hmac(m.v)
	if len(data) > 0 {
		m.k = m.hmac(m.v, []byte{1}, data)
		m.v = m.hmac(m.v)
	}
}

func (m *model) reseed(entropy []byte) {
	m.update(entropy)
	m.left = 0
}

func (m *model) bytes(n int) []byte {
	var out []byte
	for len(out) < n {
		m.v = m.hmac(m.v)
		out = append(out, m.v...)
	}
	m.update(nil)
	m.left++
	return out[:n]
}

func (m *model) below(limit *big.Int) *big.Int {
	drawn := new(big.Int).SetBytes(m.bytes((limit.BitLen() + 64 + 7) / 8))
	return drawn.Mod(drawn, limit)
}

// pair is a generator with its model, from the same entropy.
type pair struct {
	*testing.T
	d *drbg.DRBG
	m *model
}

func newPair(t *testing.T, entropy []byte) pair {
	t.Helper()
	p := pair{t, drbg.New(entropy), newModel(entropy)}
	if p.d == nil {
		t.Fatal("New returns nil")
	}
	return p
}

// bytes fails the test if the next n bytes, or Left behind them, are not the
// model's.
func (p pair) bytes(n int, what ...any) {
	p.Helper()
	same(p.T, p.d.Bytes(n), p.m.bytes(n), what...)
	p.left(what...)
}

// below fails the test if the next number less than limit, or Left behind it,
// is not the model's.
func (p pair) below(limit api.Nat, what ...any) {
	p.Helper()
	got, ok := p.d.Below(limit)
	if !ok {
		p.Fatalf("%v: Below %x is false", what, limit)
	}
	sameNat(p.T, got, p.m.below(toBig(limit)), what...)
	p.left(what...)
}

// reseed takes the entropy into both, and fails the test if Left is not 0.
func (p pair) reseed(entropy []byte, what ...any) {
	p.Helper()
	p.d.Reseed(entropy)
	p.m.reseed(entropy)
	p.left(what...)
}

// left fails the test if Left is not the model's.
func (p pair) left(what ...any) {
	p.Helper()
	if got := p.d.Left(); got != p.m.left {
		p.Fatalf("%v: Left is %d, want %d", what, got, p.m.left)
	}
}

// refused fails the test if Below does not refuse the limit.
func refused(t *testing.T, d *drbg.DRBG, limit api.Nat, what ...any) {
	t.Helper()
	if got, ok := d.Below(limit); ok || got != nil {
		t.Fatalf("%v: Below of %d limbs returns %x, %v", what, len(limit), got, ok)
	}
}

// power is 2^i, with zero limbs at its end.
func power(i, zeros int) api.Nat {
	n := make(api.Nat, i/64+1+zeros)
	n[i/64] = 1 << (i % 64)
	return n
}

// ones is 2^i - 1, with zero limbs at its end.
func ones(i, zeros int) api.Nat {
	n := make(api.Nat, (i+63)/64+zeros)
	for j := range i {
		n[j/64] |= 1 << (j % 64)
	}
	return n
}

// toBig is a number's value.
func toBig(a api.Nat) *big.Int {
	z := new(big.Int)
	for i := len(a) - 1; i >= 0; i-- {
		z.Lsh(z, 64)
		z.Or(z, new(big.Int).SetUint64(a[i]))
	}
	return z
}

// some makes n bytes that follow from the seed.
func some(seed int64, n int) []byte {
	b := make([]byte, n)
	rand.New(rand.NewSource(seed)).Read(b)
	return b
}

// same fails the test if got is not want.
func same(t *testing.T, got, want []byte, what ...any) {
	t.Helper()
	if !bytes.Equal(got, want) {
		t.Fatalf("%v: got %d bytes %.64x, want %d bytes %.64x", what, len(got), got, len(want), want)
	}
}

// sameNat fails the test if got is not want in normal form.
func sameNat(t *testing.T, got api.Nat, want *big.Int, what ...any) {
	t.Helper()
	if len(got) > 0 && got[len(got)-1] == 0 {
		t.Fatalf("%v: %x is not in normal form", what, got)
	}
	if toBig(got).Cmp(want) != 0 {
		t.Fatalf("%v: got %x, want %x", what, toBig(got), want)
	}
}

// none fails the test if got is not nil.
func none(t *testing.T, got []byte, what ...any) {
	t.Helper()
	if got != nil {
		t.Fatalf("%v: got %d bytes %.64x, want nil", what, len(got), got)
	}
}

// fromHex are the bytes that text says.
func fromHex(t *testing.T, text string) []byte {
	t.Helper()
	b, err := hex.DecodeString(text)
	if err != nil {
		t.Fatal(err)
	}
	return b
}
