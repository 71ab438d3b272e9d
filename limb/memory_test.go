package limb_test

import (
	"slices"
	"testing"

	"bailey/api"
	"bailey/limb"
)

// calls are the functions that take and give numbers.
var calls = []struct {
	name string
	f    func(a, b api.Nat) []api.Nat
}{
	{"Norm", func(a, b api.Nat) []api.Nat { return []api.Nat{limb.Norm(a), limb.Norm(b)} }},
	{"Add", func(a, b api.Nat) []api.Nat { return []api.Nat{limb.Add(a, b)} }},
	{"Sub", func(a, b api.Nat) []api.Nat { d, _ := limb.Sub(a, b); return []api.Nat{d} }},
	{"Mul", func(a, b api.Nat) []api.Nat { return []api.Nat{limb.Mul(a, b)} }},
	{"Quo", func(a, b api.Nat) []api.Nat { q, r, _ := limb.Quo(a, b); return []api.Nat{q, r} }},
	{"Shl", func(a, b api.Nat) []api.Nat { return []api.Nat{limb.Shl(a, 0), limb.Shl(b, 64)} }},
	{"Shr", func(a, b api.Nat) []api.Nat { return []api.Nat{limb.Shr(a, 0), limb.Shr(b, 64)} }},
	{"Cmp", func(a, b api.Nat) []api.Nat { limb.Cmp(a, b); return nil }},
	{"Bits", func(a, b api.Nat) []api.Nat { limb.Bits(a); limb.Bit(b, 3); return nil }},
	{"Bytes", func(a, b api.Nat) []api.Nat { limb.Bytes(a, 40); return nil }},
	{"Each", func(a, b api.Nat) []api.Nat {
		var n api.Nat
		for i, bit := range limb.Each(a) {
			n = limb.Add(n, limb.Shl(limb.Of(uint64(bit)), i))
		}
		return []api.Nat{n}
	}},
}

// withRoom is a with spare capacity, in which no call may write.
func withRoom(a api.Nat) api.Nat {
	room := append(append(make(api.Nat, 0, len(a)+9), a...), 7, 7, 7, 7, 7, 7, 7, 7, 7)
	return room[:len(a)]
}

// spoil writes over a number and its spare capacity.
func spoil(a api.Nat) {
	a = a[:cap(a)]
	for i := range a {
		a[i] = 0xdead
	}
}

// P1.4: no call changes an argument, nor its spare capacity, and a result is
// neither an argument's memory nor another result's.
func TestMemory(t *testing.T) {
	list := []api.Nat{nil, {0}, {0, 0}, {1}, {top}, {5, 0}, {0, 1}, {1, 2, 3}, {1, 2, 3, 0}, {top, top, top, top}, {9, 8, 7, 6, 5}}
	for _, c := range calls {
		for _, first := range list {
			for _, second := range list {
				a, b := withRoom(first), withRoom(second)
				wholeA, wholeB := a[:cap(a)], b[:cap(b)]
				keptA, keptB := slices.Clone(wholeA), slices.Clone(wholeB)
				results := c.f(a, b)
				var kept []api.Nat
				for _, r := range results {
					kept = append(kept, slices.Clone(r))
				}
				for i, r := range results {
					if !slices.Equal(r, kept[i]) {
						t.Fatalf("%s of %x, %x: result %d shares memory with another", c.name, first, second, i)
					}
					spoil(r)
				}
				if !slices.Equal(wholeA, keptA) || !slices.Equal(wholeB, keptB) {
					t.Fatalf("%s of %x, %x changes an argument, or gives it out", c.name, first, second)
				}
				for i, r := range c.f(a, b) {
					if !slices.Equal(r, kept[i]) {
						t.Fatalf("%s of %x, %x: what was given out is kept", c.name, first, second)
					}
				}
			}
		}
	}
}

// P1.4: the same number twice as an argument.
func TestSameArgument(t *testing.T) {
	p := newPicker(8)
	for range 500 {
		a := p.nat(6)
		kept := slices.Clone(a)
		for _, c := range calls {
			want := c.f(slices.Clone(a), slices.Clone(a))
			for i, r := range c.f(a, a) {
				if !slices.Equal(r, want[i]) || !slices.Equal(a, kept) {
					t.Fatalf("%s of %x and itself: %x", c.name, kept, r)
				}
			}
		}
	}
}

// P1.4: the byte strings of FromBytes and Bytes.
func TestBytesMemory(t *testing.T) {
	room := []byte{1, 2, 3, 4, 5, 6, 7, 8, 9, 7, 7, 7}
	kept := slices.Clone(room)
	n := limb.FromBytes(room[:9])
	b, ok := limb.Bytes(n, 12)
	if !ok || !slices.Equal(b, []byte{0, 0, 0, 1, 2, 3, 4, 5, 6, 7, 8, 9}) {
		t.Fatalf("Bytes: %x", b)
	}
	again, _ := limb.Bytes(n, 12)
	clear(b[:cap(b)])
	if again[11] != 9 || limb.Bits(n) != 65 {
		t.Error("Bytes gives out memory twice")
	}
	spoil(n)
	if !slices.Equal(room, kept) {
		t.Error("FromBytes changes its argument, or gives it out")
	}
	clear(room)
	if again[11] != 9 {
		t.Error("Bytes keeps the argument of FromBytes")
	}
}
