package limb_test

import (
	"math/big"
	"testing"

	"bailey/api"
	"bailey/limb"
)

// P1.1: Of.
func TestOf(t *testing.T) {
	zero(t, limb.Of(0))
	for _, n := range []uint64{1, 2, 1 << 63, top} {
		if a := limb.Of(n); len(a) != 1 || a[0] != n {
			t.Errorf("Of(%d) = %x", n, a)
		}
	}
}

// P1.1: Norm, and the limbs at the end that are 0.
func TestNorm(t *testing.T) {
	for _, a := range []api.Nat{nil, {}, {0}, {0, 0}, {5}, {5, 0, 0}, {0, 5}, {0, 5, 0}, {0, 0, top, 0, 0, 0}} {
		same(t, limb.Norm(a), toBig(a), "Norm", a)
	}
}

// P1.1: Cmp.
func TestCmp(t *testing.T) {
	rising := []api.Nat{{}, {1}, {2}, {top}, {0, 1}, {1, 1}, {top, 1}, {0, 2}, {top, top}, {0, 0, 1}, {5, 4, 1}, {4, 5, 1}, {0, 0, 2}}
	for i, a := range rising {
		for j, b := range rising {
			want := 0
			if i < j {
				want = -1
			} else if i > j {
				want = 1
			}
			long := append(append(api.Nat{}, b...), 0, 0)
			if limb.Cmp(a, b) != want || limb.Cmp(a, long) != want || limb.Cmp(long, a) != -want {
				t.Errorf("Cmp of %x, %x is not %d", a, b, want)
			}
		}
	}
	if limb.Cmp(nil, api.Nat{0, 0}) != 0 || limb.Cmp(api.Nat{0}, nil) != 0 {
		t.Error("Cmp of zeros is not 0")
	}
}

// P1.1: Add, Sub and Mul hold against another arithmetic.
func TestAddSubMul(t *testing.T) {
	p := newPicker(1)
	for range 20000 {
		a, b := p.nat(6), p.nat(6)
		x, y := toBig(a), toBig(b)
		same(t, limb.Add(a, b), new(big.Int).Add(x, y), "Add", a, b)
		same(t, limb.Mul(a, b), new(big.Int).Mul(x, y), "Mul", a, b)
		if limb.Cmp(a, b) != x.Cmp(y) {
			t.Fatalf("Cmp of %x, %x", a, b)
		}
		d, ok := limb.Sub(a, b)
		if ok != (x.Cmp(y) >= 0) {
			t.Fatalf("Sub of %x, %x: %v", a, b, ok)
		}
		if ok {
			same(t, d, new(big.Int).Sub(x, y), "Sub", a, b)
		} else {
			zero(t, d, "Sub", a, b)
		}
	}
}

// P1.1: the edges of Add, Sub and Mul.
func TestAddSubMulEdges(t *testing.T) {
	zero(t, limb.Add(nil, nil))
	zero(t, limb.Add(api.Nat{0}, api.Nat{0, 0}))
	zero(t, limb.Mul(nil, api.Nat{1, 2}))
	zero(t, limb.Mul(api.Nat{1, 2}, api.Nat{0, 0}))
	same(t, limb.Add(api.Nat{top, top, top}, api.Nat{1}), toBig(api.Nat{0, 0, 0, 1}))
	same(t, limb.Add(api.Nat{1}, api.Nat{top, top, top}), toBig(api.Nat{0, 0, 0, 1}))
	same(t, limb.Mul(api.Nat{top, top}, api.Nat{top, top}), toBig(api.Nat{1, 0, top - 1, top}))

	d, ok := limb.Sub(api.Nat{0, 1}, api.Nat{1})
	if same(t, d, toBig(api.Nat{top})); !ok {
		t.Error("Sub(2^64, 1) is false")
	}
	d, ok = limb.Sub(api.Nat{0, 0, 0, 1}, api.Nat{1, 0})
	if same(t, d, toBig(api.Nat{top, top, top})); !ok {
		t.Error("Sub(2^192, 1) is false")
	}
	for _, a := range []api.Nat{nil, {0}, {7}, {7, 9, 0}} {
		if d, ok = limb.Sub(a, limb.Norm(a)); !ok || len(d) != 0 {
			t.Errorf("Sub of %x from itself: %x, %v", a, d, ok)
		}
	}
	for _, b := range []api.Nat{{2}, {0, 1}, {2, 0, 0}} {
		if d, ok = limb.Sub(api.Nat{1, 0, 0, 0}, b); ok || len(d) != 0 {
			t.Errorf("Sub of %x from 1: %x, %v", b, d, ok)
		}
	}
}

// divide fails the test if Quo of a and b is not what another arithmetic says.
func divide(t *testing.T, a, b api.Nat) {
	t.Helper()
	q, r, ok := limb.Quo(a, b)
	y := toBig(b)
	if y.Sign() == 0 {
		if ok || len(q) != 0 || len(r) != 0 {
			t.Fatalf("Quo of %x by 0: %x, %x, %v", a, q, r, ok)
		}
		return
	}
	if !ok {
		t.Fatalf("Quo of %x by %x is false", a, b)
	}
	wantQ, wantR := new(big.Int).QuoRem(toBig(a), y, new(big.Int))
	same(t, q, wantQ, "quotient", a, b)
	same(t, r, wantR, "remainder", a, b)
}

// P1.1: the example of Quo.
func TestQuoExample(t *testing.T) {
	q, r, ok := limb.Quo(api.Nat{0, 0, 1}, api.Nat{3})
	want, _ := new(big.Int).SetString("113427455640312821154458202477256070485", 10)
	same(t, q, want)
	if same(t, r, big.NewInt(1)); !ok {
		t.Error("Quo of 2^128 by 3 is false")
	}
}

// P1.1: Quo by 0, however it is written.
func TestQuoByZero(t *testing.T) {
	for _, a := range []api.Nat{nil, {0}, {1}, {1, 2, 3}} {
		for _, b := range []api.Nat{nil, {}, {0}, {0, 0, 0}} {
			divide(t, a, b)
		}
	}
}

// P1.1: Quo of every pair of short numbers whose limbs lie at the edges, so
// that each way through the estimate of a digit is taken.
func TestQuoEdges(t *testing.T) {
	edges := []uint64{0, 1, 1<<63 - 1, 1 << 63, top}
	var all []api.Nat
	var grow func(a api.Nat, n int)
	grow = func(a api.Nat, n int) {
		all = append(all, a)
		for _, e := range edges {
			if n > 0 {
				grow(append(append(api.Nat{}, a...), e), n-1)
			}
		}
	}
	grow(nil, 4)
	for _, a := range all {
		for _, b := range all {
			if len(b) < 4 {
				divide(t, a, b)
			}
		}
	}
}

// P1.1: Quo where the estimate of a digit is one too large even after it was
// corrected, so that the divisor is added back.
func TestQuoAddsBack(t *testing.T) {
	divide(t, api.Nat{0, 0, 1 << 63, 1<<63 - 1}, api.Nat{1, 0, 1 << 63})
	divide(t, api.Nat{3, 0, 1 << 63}, api.Nat{1, 0, 1 << 61})
	divide(t, api.Nat{0, top - 1, 1 << 63}, api.Nat{top, 1 << 63})
	divide(t, api.Nat{0, 0, top - 1, top}, api.Nat{0, top, top})
}

// P1.1: Quo of numbers of many lengths.
func TestQuo(t *testing.T) {
	p := newPicker(2)
	for range 50000 {
		divide(t, p.nat(9), p.nat(5))
	}
	for range 20 {
		divide(t, p.nat(800), p.nat(400))
	}
	a := p.nat(40)
	for range 200 { // a multiple, and the numbers next to it
		b := append(p.nat(20), 1)
		m := limb.Mul(a, b)
		divide(t, m, b)
		divide(t, limb.Add(m, limb.Of(1)), b)
		if less, ok := limb.Sub(m, limb.Of(1)); ok {
			divide(t, less, b)
		}
	}
}
