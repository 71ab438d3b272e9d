package limb_test

import (
	"bytes"
	"math"
	"math/big"
	"testing"

	"bailey/api"
	"bailey/limb"
)

// P1.3: FromBytes.
func TestFromBytes(t *testing.T) {
	zero(t, limb.FromBytes(nil))
	zero(t, limb.FromBytes([]byte{}))
	zero(t, limb.FromBytes(make([]byte, 100)))
	same(t, limb.FromBytes([]byte{1, 0}), big.NewInt(256))
	p := newPicker(6)
	for n := range 70 {
		b := make([]byte, n)
		for range 20 {
			p.Read(b)
			same(t, limb.FromBytes(b), new(big.Int).SetBytes(b), "FromBytes", b)
			if n > 0 { // a digit at the beginning that is 0
				b[0] = 0
				same(t, limb.FromBytes(b), new(big.Int).SetBytes(b), "FromBytes", b)
			}
		}
	}
	long := bytes.Repeat([]byte{0xa5}, 100003)
	same(t, limb.FromBytes(long), new(big.Int).SetBytes(long))
}

// P1.3: Bytes of as many digits as there are, of more, and of too few.
func TestBytes(t *testing.T) {
	p := newPicker(7)
	for range 300 {
		a := p.nat(4)
		x := toBig(a)
		need := (x.BitLen() + 7) / 8
		for n := range 50 {
			b, ok := limb.Bytes(a, n)
			if n < need {
				if ok || b != nil {
					t.Fatalf("Bytes of %x, %d: %x, %v", a, n, b, ok)
				}
				continue
			}
			if want := x.FillBytes(make([]byte, n)); !ok || !bytes.Equal(b, want) {
				t.Fatalf("Bytes of %x, %d: %x, %v", a, n, b, ok)
			}
		}
	}
}

// P1.3: the edges of Bytes.
func TestBytesEdges(t *testing.T) {
	for _, c := range []struct {
		a  api.Nat
		n  int
		ok bool
	}{
		{nil, 0, true}, {api.Nat{0, 0}, 0, true}, {api.Nat{1}, 0, false}, {api.Nat{1, 0}, 0, false},
		{api.Nat{255}, 1, true}, {api.Nat{256}, 1, false}, {api.Nat{256}, 4, true}, {api.Nat{256, 0, 0}, 2, true},
		{api.Nat{top}, 8, true}, {api.Nat{0, 1}, 8, false}, {api.Nat{0, 1}, 9, true}, {api.Nat{top, top}, 15, false},
		{nil, -1, false}, {nil, math.MinInt, false}, {nil, 65537, false}, {nil, math.MaxInt, false},
		{api.Nat{9}, -1, false}, {api.Nat{9}, 65537, false}, {api.Nat{9}, math.MaxInt, false}, {api.Nat{9}, math.MinInt, false},
		{nil, 65536, true}, {api.Nat{9}, 65536, true},
	} {
		b, ok := limb.Bytes(c.a, c.n)
		if ok != c.ok || ok && len(b) != c.n || !ok && b != nil {
			t.Errorf("Bytes of %x, %d: %d bytes, %v", c.a, c.n, len(b), ok)
		}
		if ok && toBig(c.a).Cmp(new(big.Int).SetBytes(b)) != 0 {
			t.Errorf("Bytes of %x, %d: %x", c.a, c.n, b)
		}
	}
	largest := limb.FromBytes(bytes.Repeat([]byte{255}, 65536))
	if b, ok := limb.Bytes(largest, 65536); !ok || b[0] != 255 || b[65535] != 255 {
		t.Error("256^65536 - 1 does not fit into 65,536 bytes")
	}
	if _, ok := limb.Bytes(limb.Add(largest, limb.Of(1)), 65536); ok {
		t.Error("256^65536 fits into 65,536 bytes")
	}
}
