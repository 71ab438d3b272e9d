package hashes_test

import (
	"bytes"
	"math/rand"
	"testing"

	"bailey/api"
	"bailey/hashes"
)

// P3.1: New of a kind that is valid, and of one that is not.
func TestNew(t *testing.T) {
	for _, k := range kinds {
		h := hashes.New(k.kind)
		if h == nil {
			t.Fatalf("New of %d is nil", k.kind)
		}
		same(t, h.Sum(), hashOf(k.other), "a new", k.kind)
	}
	for _, kind := range wrongKinds {
		if hashes.New(kind) != nil {
			t.Errorf("New of %d is not nil", kind)
		}
	}
}

// P3.1: messages of all lengths about the ends of the first blocks, written
// whole and in two pieces.
func TestWrite(t *testing.T) {
	all := some(1, 300)
	for _, k := range kinds {
		for n := range len(all) + 1 {
			want := hashOf(k.other, all[:n])
			for _, first := range []int{0, 1, n / 2, n - 1, n, k.block - 1, k.block, k.block + 1} {
				if first < 0 || first > n {
					continue
				}
				h := hashes.New(k.kind)
				h.Write(all[:first])
				h.Write(all[first:n])
				same(t, h.Sum(), want, k.kind, n, first)
			}
		}
	}
}

// P3.1: pieces of one length, and of any lengths, and empty ones between.
func TestWritePieces(t *testing.T) {
	all := some(2, 1000)
	p := rand.New(rand.NewSource(3))
	for _, k := range kinds {
		want := hashOf(k.other, all)
		for n := range 300 {
			h := hashes.New(k.kind)
			for rest := all; len(rest) > 0; {
				size := min(n, len(rest))
				if n == 0 {
					size = min(p.Intn(200), len(rest))
				}
				h.Write(rest[:size])
				h.Write(nil)
				h.Write([]byte{})
				rest = rest[size:]
			}
			same(t, h.Sum(), want, k.kind, n)
		}
	}
}

// A Hash keeps no byte that it has taken into its words: however the message
// was cut, its value is the same.
func TestWriteKeepsNoMore(t *testing.T) {
	all := some(13, 300)
	for _, k := range kinds {
		whole := hashes.New(k.kind)
		whole.Write(all)
		for n := range len(all) {
			h := hashes.New(k.kind)
			h.Write(all[:n])
			h.Write(all[n:])
			if *h != *whole {
				t.Fatalf("%d, cut at %d: %v, not %v", k.kind, n, *h, *whole)
			}
		}
	}
}

// P3.1: a long message, whose number of bits does not fit into two bytes.
func TestLong(t *testing.T) {
	million := bytes.Repeat([]byte("a"), 1000000)
	for i, want := range []string{
		"34aa973cd4c4daa4f61eeb2bdbad27316534016f",
		"20794655980c91d8bbb4c1ea97618a4bf03f42581948b2ee4ee7ad67",
		"cdc76e5c9914fb9281a1c7e284d73e67f1809a48a497200e046d39ccc7112cd0",
		"9d0e1809716474cb086e834e310a4a1ced149e9c00f248527972cec5704c2a5b07b8b3dc38ecc4ebae97ddd87f3d8985",
		"e718483d0ce769644e2e42c7bc15b4638e1f98b13b2044285632a803afa973ebde0ff244877ea60a4cb0432ce577c31beb009c5c2c49aa2e4eadb217ad8cc09b",
	} {
		h := hashes.New(kinds[i].kind)
		h.Write(million[:1])
		h.Write(million[1:])
		sameHex(t, h.Sum(), want, kinds[i].kind)
	}
	long := some(4, 1<<21+3)
	for _, k := range kinds {
		same(t, hashes.Of(k.kind, long), hashOf(k.other, long), k.kind)
	}
}

// P3.1: Sum does not change the state, wherever in a block it is asked.
func TestSumKeeps(t *testing.T) {
	all := some(5, 260)
	for _, k := range kinds {
		h := hashes.New(k.kind)
		for n := range all {
			same(t, h.Sum(), hashOf(k.other, all[:n]), k.kind, n)
			same(t, h.Sum(), hashOf(k.other, all[:n]), k.kind, n, "again")
			h.Write(all[n : n+1])
		}
	}
}

// P3.1: a Copy and what it is of are independent, wherever in a block it is
// taken.
func TestCopy(t *testing.T) {
	all := some(6, 200)
	more, other := some(7, 150), some(8, 150)
	for _, k := range kinds {
		for n := range all {
			h := hashes.New(k.kind)
			h.Write(all[:n])
			c := h.Copy()
			same(t, c.Sum(), hashOf(k.other, all[:n]), k.kind, n)
			h.Write(more)
			same(t, c.Sum(), hashOf(k.other, all[:n]), k.kind, n)
			c.Write(other)
			same(t, h.Sum(), hashOf(k.other, all[:n], more), k.kind, n)
			same(t, c.Sum(), hashOf(k.other, all[:n], other), k.kind, n)
			same(t, c.Copy().Sum(), c.Sum(), k.kind, n)
		}
	}
}

// P0.5: the value of a Hash is one of its own too.
func TestValue(t *testing.T) {
	all := some(9, 200)
	for _, k := range kinds {
		h := hashes.New(k.kind)
		h.Write(all[:30])
		v := *h
		h.Write(all)
		v.Write(all[30:])
		same(t, v.Sum(), hashOf(k.other, all), k.kind)
		same(t, h.Sum(), hashOf(k.other, all[:30], all), k.kind)
	}
}

// P0.5: Hashes that are written to by turns.
func TestIndependent(t *testing.T) {
	all := some(10, 500)
	var list []*hashes.Hash
	for _, k := range kinds {
		list = append(list, hashes.New(k.kind), hashes.New(k.kind))
	}
	for i := 0; i < len(all); i += 10 {
		for j, h := range list {
			h.Write(all[i : i+5+j%2*5])
		}
	}
	for j, h := range list {
		want := hashes.New(kinds[j/2].kind)
		for i := 0; i < len(all); i += 10 {
			want.Write(all[i : i+5+j%2*5])
		}
		same(t, h.Sum(), want.Sum(), j)
	}
}

// P3.1: a nil *Hash, and one that New did not make.
func TestNil(t *testing.T) {
	var h *hashes.Hash
	h.Write([]byte("abc"))
	h.Write(nil)
	none(t, h.Sum(), "Sum of nil")
	if h.Copy() != nil {
		t.Error("Copy of nil is not nil")
	}
	h.Copy().Write([]byte("abc"))
	none(t, h.Copy().Sum(), "Sum of the Copy of nil")
	none(t, hashes.New(0).Copy().Sum(), "Sum of New of no kind")

	var unmade hashes.Hash
	unmade.Write(some(11, 300))
	none(t, unmade.Sum(), "Sum of a Hash that New did not make")
	none(t, unmade.Copy().Sum(), "Sum of its Copy")
}

// P3.2: Size and Block.
func TestSizes(t *testing.T) {
	for _, k := range kinds {
		if hashes.Size(k.kind) != k.size || hashes.Block(k.kind) != k.block {
			t.Errorf("Size and Block of %d: %d, %d", k.kind, hashes.Size(k.kind), hashes.Block(k.kind))
		}
	}
	for _, kind := range wrongKinds {
		if hashes.Size(kind) != 0 || hashes.Block(kind) != 0 {
			t.Errorf("Size and Block of %d: %d, %d", kind, hashes.Size(kind), hashes.Block(kind))
		}
	}
}

// P3.2: Of of no parts, and of some, the empty ones among them.
func TestOf(t *testing.T) {
	sameHex(t, hashes.Of(api.SHA256, []byte("abc")), "ba7816bf8f01cfea414140de5dae2223b00361a396177a9cb410ff61f20015ad")
	sameHex(t, hashes.Of(api.SHA1), "da39a3ee5e6b4b0d3255bfef95601890afd80709")
	all := some(12, 400)
	for _, k := range kinds {
		for _, parts := range [][][]byte{
			nil, {nil}, {{}}, {nil, {}, nil}, {all}, {nil, all}, {all, nil}, {all, all},
			{all[:1], all[1:2], nil, all[2:66], {}, all[66:]}, {all[:64], all[64:128], all[128:256]}, {all[:3], all[:3], all[:3]},
		} {
			same(t, hashes.Of(k.kind, parts...), hashOf(k.other, parts...), k.kind)
			same(t, hashes.Of(k.kind, parts...), hashes.Of(k.kind, bytes.Join(parts, nil)), k.kind)
		}
	}
	for _, kind := range wrongKinds {
		none(t, hashes.Of(kind), "Of", kind)
		none(t, hashes.Of(kind, nil, all), "Of", kind)
	}
}
