package der_test

import (
	"bytes"
	"encoding/asn1"
	"math/big"
	"testing"

	"bailey/api"
	"bailey/der"
)

// toNat is the number with the value of x, with so many zeros at its end.
func toNat(x *big.Int, zeros int) api.Nat {
	var a api.Nat
	for y := new(big.Int).Set(x); y.Sign() > 0; y.Rsh(y, 64) {
		a = append(a, new(big.Int).And(y, new(big.Int).SetUint64(1<<64-1)).Uint64())
	}
	return append(a, make(api.Nat, zeros)...)
}

// toBig is a number's value.
func toBig(a api.Nat) *big.Int {
	z := new(big.Int)
	for i := len(a) - 1; i >= 0; i-- {
		z.Or(z.Lsh(z, 64), new(big.Int).SetUint64(a[i]))
	}
	return z
}

// numbers are numbers at the edges of their bytes and limbs, and others.
func numbers() []*big.Int {
	all := []*big.Int{new(big.Int)}
	for _, n := range []uint{1, 7, 8, 9, 15, 16, 17, 31, 32, 33, 55, 56, 57, 62, 63, 64, 65, 71, 72, 119, 120, 127, 128, 129, 255, 256, 1000, 4095, 4096, 65535, 65536, 65537} {
		for d := int64(-2); d <= 2; d++ {
			if x := new(big.Int).Add(new(big.Int).Lsh(big.NewInt(1), n), big.NewInt(d)); x.Sign() >= 0 {
				all = append(all, x)
			}
		}
	}
	for n := range 300 {
		all = append(all, big.NewInt(int64(n)), new(big.Int).SetBytes(some(int64(n), n)))
	}
	return all
}

// isInt fails the test if n is not the node of x, alone and with nothing else.
func isInt(t *testing.T, n api.Node, x *big.Int) {
	t.Helper()
	if n.Tag != api.TagInt || n.Kids != nil || !bytes.Equal(n.Bytes, tail(must(asn1.Marshal(x)))) {
		t.Fatalf("of a number of %d bits: got %v", x.BitLen(), about(n))
	}
}

// P11.3: the chapter's examples of Int, and the numbers at the edges.
func TestIntTexts(t *testing.T) {
	for n, text := range map[uint64]string{
		0: "02 01 00", 1: "02 01 01", 127: "02 01 7f", 128: "02 02 00 80", 255: "02 02 00 ff", 256: "02 02 01 00", 32767: "02 02 7f ff",
		32768: "02 03 00 80 00", 65537: "02 03 01 00 01", 1<<63 - 1: "02 08 7f ff ff ff ff ff ff ff", 1 << 63: "02 09 00 80 00 00 00 00 00 00 00",
	} {
		writes(t, der.Int(api.Nat{n}), toBytes(text))
		writes(t, der.Int(api.Nat{n, 0, 0}), toBytes(text))
	}
	writes(t, der.Int(nil), toBytes("02 01 00"))
	writes(t, der.Int(api.Nat{}), toBytes("02 01 00"))
	writes(t, der.Int(api.Nat{0, 1}), toBytes("02 09 01 00 00 00 00 00 00 00 00"))
}

// P11.3: Int and Nat hold against another implementation, with zeros at the end
// of the number or without.
func TestIntNat(t *testing.T) {
	for _, x := range numbers() {
		for _, zeros := range []int{0, 1, 2, 50} {
			n := der.Int(toNat(x, zeros))
			isInt(t, n, x)
			may(t, der.May(n), true, n)
			a, ok := der.Nat(n)
			if !ok || toBig(a).Cmp(x) != 0 || len(a) > 0 && a[len(a)-1] == 0 {
				t.Fatalf("Nat of %v: %d limbs, %v", about(n), len(a), ok)
			}
		}
	}
}

// P11.3: numbers that fit into an encoding and those that are longer than one.
func TestIntLong(t *testing.T) {
	for _, n := range []int{65531, 65532, 65533, 65535, 65536, 65537, 65544, 70000} {
		for _, first := range []byte{1, 128} {
			b := some(int64(n), n)
			b[0] = first
			x := new(big.Int).SetBytes(b)
			node := der.Int(toNat(x, 3))
			isInt(t, node, x)
			may(t, der.May(node), true, node)
			if a, ok := der.Nat(node); !ok || toBig(a).Cmp(x) != 0 {
				t.Fatalf("Nat of %d bytes: %v", n, ok)
			}
			if got, ok := der.Write(node); ok != (len(node.Bytes) <= 65532) || ok && !bytes.Equal(got, encode(node)) {
				t.Fatalf("Write of %d bytes: %v", len(node.Bytes), ok)
			}
		}
	}
}

// P11.3: Nat of nodes of other tags, and of nodes that are not valid.
func TestNatNot(t *testing.T) {
	all := invalids()
	for _, tag := range append(tags, wrongTags...) {
		for _, b := range [][]byte{nil, {}, {0}, {1}, {127}, {0, 128}} {
			n := leaf(tag, b...)
			if tag != api.TagInt {
				all = append(all, n)
			}
			n.Kids = []api.Node{null}
			all = append(all, n)
		}
	}
	for _, n := range valids() {
		if n.Tag != api.TagInt {
			all = append(all, n)
		}
	}
	for _, n := range append(all, seq(der.Int(nil)), loop(1), bush(64)) {
		if a, ok := der.Nat(n); ok || a != nil {
			t.Fatalf("Nat of %v: %x, %v", about(n), a, ok)
		}
	}
}

// P11.3: Nat of all short Bytes.
func TestNatBytes(t *testing.T) {
	for _, b := range texts(5, 0, 1, 127, 128, 129, 255) {
		n := leaf(api.TagInt, b...)
		a, ok := der.Nat(n)
		if ok != isValid(n) || ok && toBig(a).Cmp(new(big.Int).SetBytes(b)) != 0 || !ok && a != nil {
			t.Fatalf("Nat of %x: %x, %v", b, a, ok)
		}
	}
	n := api.Node{Tag: api.TagInt, Bytes: []byte{5}, Kids: []api.Node{}}
	if a, ok := der.Nat(n); !ok || toBig(a).Int64() != 5 {
		t.Fatalf("Nat with Kids that are none: %x, %v", a, ok)
	}
}
