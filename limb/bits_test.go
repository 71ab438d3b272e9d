package limb_test

import (
	"math"
	"math/big"
	"testing"

	"bailey/api"
	"bailey/limb"
)

// P1.2: Shl and Shr hold against another arithmetic.
func TestShifts(t *testing.T) {
	p := newPicker(3)
	for range 2000 {
		a := p.nat(5)
		for _, n := range []int{0, 1, 63, 64, 65, 127, 128, 129, p.Intn(500)} {
			same(t, limb.Shl(a, n), new(big.Int).Lsh(toBig(a), uint(n)), "Shl", a, n)
			same(t, limb.Shr(a, n), new(big.Int).Rsh(toBig(a), uint(n)), "Shr", a, n)
		}
	}
}

// P1.2: the range of Shl.
func TestShlRange(t *testing.T) {
	for _, n := range []int{math.MinInt, -65536, -64, -1, 65537, 65600, math.MaxInt} {
		for _, a := range []api.Nat{nil, {0}, {1}, {top, top, 0}} {
			zero(t, limb.Shl(a, n), "Shl", a, n)
		}
	}
	same(t, limb.Shl(api.Nat{1}, 65536), new(big.Int).Lsh(big.NewInt(1), 65536))
	same(t, limb.Shl(api.Nat{top, 0}, 65535), new(big.Int).Lsh(toBig(api.Nat{top}), 65535))
	zero(t, limb.Shl(nil, 65536))
	zero(t, limb.Shl(api.Nat{0, 0}, 5))
}

// P1.2: the range of Shr, which has no upper end.
func TestShrRange(t *testing.T) {
	for _, n := range []int{math.MinInt, -64, -1, 192, 193, 65536, 65537, math.MaxInt} {
		for _, a := range []api.Nat{nil, {0}, {1}, {top, top, top}} {
			zero(t, limb.Shr(a, n), "Shr", a, n)
		}
	}
	same(t, limb.Shr(api.Nat{top, top, top}, 191), big.NewInt(1))
	same(t, limb.Shr(api.Nat{1, 1, 0, 0}, 64), big.NewInt(1))
	long := limb.Shl(limb.Shl(api.Nat{5}, 65536), 65536)
	same(t, limb.Shr(long, 131072), big.NewInt(5))
	same(t, limb.Shr(long, 131074), big.NewInt(1))
	zero(t, limb.Shr(long, 131075))
}

// P1.2: Bits.
func TestBits(t *testing.T) {
	for _, c := range []struct {
		a    api.Nat
		want int
	}{
		{nil, 0}, {api.Nat{0}, 0}, {api.Nat{0, 0}, 0}, {api.Nat{1}, 1}, {api.Nat{2}, 2}, {api.Nat{3, 0}, 2}, {api.Nat{4}, 3},
		{api.Nat{1 << 63}, 64}, {api.Nat{top}, 64}, {api.Nat{0, 1}, 65}, {api.Nat{top, 1, 0, 0}, 65}, {api.Nat{0, 0, 1 << 63}, 192},
	} {
		if got := limb.Bits(c.a); got != c.want {
			t.Errorf("Bits of %x is %d, not %d", c.a, got, c.want)
		}
	}
}

// P1.2: Bit.
func TestBit(t *testing.T) {
	p := newPicker(4)
	for range 200 {
		a := p.nat(4)
		x := toBig(a)
		for i := range 64*len(a) + 130 {
			if limb.Bit(a, i) != x.Bit(i) {
				t.Fatalf("bit %d of %x", i, a)
			}
		}
		for _, i := range []int{math.MinInt, -65, -64, -63, -1, 1 << 40, math.MaxInt} {
			if limb.Bit(a, i) != 0 {
				t.Fatalf("bit %d of %x", i, a)
			}
		}
	}
	if limb.Bit(api.Nat{top}, -1) != 0 || limb.Bit(api.Nat{top}, 64) != 0 || limb.Bit(api.Nat{top}, 63) != 1 {
		t.Error("the ends of Bit")
	}
}

// P1.2: Each yields every bit once, the highest first.
func TestEach(t *testing.T) {
	p := newPicker(5)
	list := []api.Nat{nil, {0}, {0, 0}, {1}, {6}, {6, 0, 0}, {0, 1}, {top, top}}
	for range 200 {
		list = append(list, p.nat(4))
	}
	for _, a := range list {
		x := toBig(a)
		next := x.BitLen() - 1
		for i, bit := range limb.Each(a) {
			if i != next || bit != x.Bit(i) {
				t.Fatalf("Each of %x yields %d, %d where %d is due", a, i, bit, next)
			}
			next--
		}
		if next != -1 {
			t.Fatalf("Each of %x ends before %d", a, next)
		}
	}
}

// P1.2: an iterator of Each can be left early, used again and nested, and goes
// over the number as it was.
func TestEachUses(t *testing.T) {
	a := api.Nat{6, 5}
	each := limb.Each(a)
	a[0], a[1] = 0, 0

	calls := 0
	each(func(int, uint) bool { calls++; return calls < 3 })
	if calls != 3 {
		t.Errorf("left after 3 bits, Each yields %d", calls)
	}
	want := toBig(api.Nat{6, 5})
	got, inner := new(big.Int), 0
	for i, bit := range each {
		got.SetBit(got, i, bit)
		for j := range each {
			if j < 64 {
				break
			}
			inner++
		}
	}
	if got.Cmp(want) != 0 || inner != 67*3 {
		t.Errorf("Each yields %x and, within, %d bits", got, inner)
	}
	if limb.Each(nil) == nil || limb.Each(api.Nat{0}) == nil {
		t.Error("Each is nil")
	}
}
