package drbg_test

import (
	"bytes"
	"testing"

	"bailey/drbg"
)

// P4.1: a vector of NIST's HMAC_DRBG tests, SHA-256 without a personalization
// string and without prediction resistance: the second of two calls.
func TestVector(t *testing.T) {
	d := drbg.New(fromHex(t, "ca851911349384bffe89de1cbdc46e6831e44d34a4fb935ee285dd14b71a7488"+"659ba96c601dc69fc902940805ec0ca8"))
	d.Bytes(128)
	same(t, d.Bytes(128), fromHex(t, "e528e9abf2dece54d47c7e75e5fe302149f817ea9fb4bee6f4199697d04d5b89"+
		"d54fbb978a15b5c443c9ec21036d2460b6f73ebad0dc2aba6e624abf07745bc1"+
		"07694bb7547bb0995f70de25d6b29e2d3011bb19d27676c07162c8b5ccde0668"+
		"961df86803482cb37ed6d5c0bb8d50cf1f50d476aa0458bdaba806f48be9dcb8"))
}

// P4.1 and P4.3: the chapter's example.
func TestExample(t *testing.T) {
	m := newModel([]byte("tape"))
	first := m.hmac(m.v)
	m.v = first
	second := m.hmac(m.v)
	d := drbg.New([]byte("tape"))
	same(t, d.Bytes(40), append(bytes.Clone(first), second[:8]...))
	d.Bytes(3)
	if d.Left() != 2 {
		t.Errorf("Left is %d, want 2", d.Left())
	}
	d.Reseed([]byte("more"))
	if d.Left() != 0 {
		t.Errorf("Left is %d, want 0", d.Left())
	}
}

// P4.1: New from entropy of many lengths, none and much among them.
func TestNew(t *testing.T) {
	for _, entropy := range [][]byte{nil, {}, make([]byte, 0, 100), {0}, {1}, {0, 0}, make([]byte, 32), make([]byte, 33), some(1, 100000)} {
		p := newPair(t, entropy)
		p.left(len(entropy))
		p.bytes(100, len(entropy))
	}
	for n := range 200 {
		p := newPair(t, some(2, n))
		p.bytes(40, n)
		p.bytes(40, n)
	}
}

// P4.1: no entropy is not a byte of it.
func TestNoEntropy(t *testing.T) {
	same(t, drbg.New(nil).Bytes(64), drbg.New([]byte{}).Bytes(64))
	if bytes.Equal(drbg.New(nil).Bytes(64), drbg.New([]byte{0}).Bytes(64)) {
		t.Error("a byte of entropy makes no difference")
	}
}

// P4.1: Bytes of all lengths about the ends of the first values of V, of a new
// generator each and of one after another.
func TestBytes(t *testing.T) {
	long := newPair(t, []byte("one after another"))
	for n := 1; n <= 200; n++ {
		p := newPair(t, []byte("new"))
		p.bytes(n, n)
		p.bytes(1, n, "then")
		long.bytes(n, n, "long")
	}
}

// P4.1: Bytes of many bytes, up to the most.
func TestBytesMany(t *testing.T) {
	p := newPair(t, []byte("many"))
	for _, n := range []int{1000, 4095, 4096, 4097, 32767, 32768, 65503, 65504, 65505, 65535, 65536} {
		p.bytes(n, n)
		p.bytes(7, n, "then")
	}
}

// P4.1: the first bytes of more are those of fewer.
func TestBytesPrefix(t *testing.T) {
	whole := drbg.New([]byte("tape")).Bytes(65536)
	for _, n := range []int{1, 31, 32, 33, 64, 65, 1000, 65535} {
		same(t, drbg.New([]byte("tape")).Bytes(n), whole[:n], n)
	}
}

// P4.1: fewer bytes than 1 and more than 65,536 are refused, which changes
// nothing.
func TestBytesRefused(t *testing.T) {
	p := newPair(t, []byte("refuse"))
	for _, n := range wrongSizes {
		none(t, p.d.Bytes(n), n)
		p.left(n, "refused first")
	}
	for _, n := range wrongSizes {
		p.bytes(33, n, "before")
		none(t, p.d.Bytes(n), n)
		p.left(n, "refused")
		p.bytes(33, n, "behind")
	}
}

// P4.1: Reseed with entropy of many lengths, none among them.
func TestReseed(t *testing.T) {
	p := newPair(t, []byte("first"))
	p.reseed([]byte("at once"))
	for _, entropy := range [][]byte{nil, {}, {0}, {1}, []byte("more"), make([]byte, 32), some(3, 55), some(4, 100000)} {
		p.bytes(40, len(entropy), "before")
		p.bytes(1, len(entropy), "before")
		p.reseed(entropy, len(entropy))
		p.bytes(40, len(entropy), "behind")
		p.reseed(entropy, len(entropy), "again")
		p.reseed(nil, len(entropy), "with nothing")
	}
	for n := range 150 {
		p.reseed(some(5, n), n)
		p.bytes(n+1, n)
	}
}

// P4.1: a generator that was reseeded goes on from what it was before.
func TestReseedGoesOn(t *testing.T) {
	d, e, f := drbg.New([]byte("one")), drbg.New([]byte("two")), drbg.New([]byte("one"))
	d.Reseed([]byte("more"))
	e.Reseed([]byte("more"))
	f.Bytes(1)
	f.Reseed([]byte("more"))
	first, second, third, fourth := d.Bytes(32), e.Bytes(32), f.Bytes(32), drbg.New([]byte("more")).Bytes(32)
	if bytes.Equal(first, second) || bytes.Equal(first, third) || bytes.Equal(first, fourth) {
		t.Error("Reseed starts anew")
	}
}
