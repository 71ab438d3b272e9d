package modarith_test

import (
	"iter"
	"math/big"
	"slices"
	"testing"

	"bailey/api"
	"bailey/modarith"
)

// strong is the Miller-Rabin test of an odd n greater than 2, in another
// arithmetic.
func strong(n, w *big.Int) bool {
	one := big.NewInt(1)
	last := new(big.Int).Sub(n, one)
	s := last.TrailingZeroBits()
	x := new(big.Int).Exp(w, new(big.Int).Rsh(last, s), n)
	if new(big.Int).Mod(w, n).Sign() == 0 || x.Cmp(one) == 0 {
		return true
	}
	for range s {
		if x.Cmp(last) == 0 {
			return true
		}
		x.Mod(x.Mul(x, x), n)
	}
	return false
}

// P2.2: Strong holds against another arithmetic, for all small numbers with
// witnesses that are 0, greater, and multiples of them.
func TestStrong(t *testing.T) {
	for n := uint64(3); n < 400; n += 2 {
		for w := range uint64(2*n + 2) {
			want := strong(new(big.Int).SetUint64(n), new(big.Int).SetUint64(w))
			if modarith.Strong(api.Nat{n}, api.Nat{w, 0}) != want {
				t.Fatalf("Strong(%d, %d) is not %v", n, w, want)
			}
		}
	}
	p := newPicker(4)
	for range 200 {
		n, w := p.odd(1+p.Intn(3)), p.nat(4)
		if want := strong(toBig(n), toBig(w)); modarith.Strong(n, w) != want {
			t.Fatalf("Strong(%x, %x) is not %v", n, w, want)
		}
	}
}

// P2.2: Strong of primes, and of composites that pass for some witnesses.
func TestStrongPseudoprimes(t *testing.T) {
	for _, c := range []struct {
		n    string
		w    uint64
		want bool
	}{
		{"2047", 2, true}, {"2047", 3, false},
		{"1373653", 3, true}, {"1373653", 5, false},
		{"3215031751", 7, true}, {"3215031751", 11, false},
		{"561", 2, false}, {"561", 50, true}, // a Carmichael number
		{"318665857834031151167461", 37, true}, {"318665857834031151167461", 41, false},
		{"170141183460469231731687303715884105727", 3, true}, // 2^127 - 1
		{"340282366920938463463374607431768211457", 3, false},
		{"65537", 3, true}, {"65537", 2, true}, {"4294967297", 2, true}, {"4294967297", 3, false},
	} {
		if modarith.Strong(number(c.n), api.Nat{c.w}) != c.want {
			t.Errorf("Strong(%s, %d) is not %v", c.n, c.w, c.want)
		}
	}
}

// P2.2: Strong of even numbers and of those less than 3.
func TestStrongEven(t *testing.T) {
	for _, w := range []api.Nat{nil, {0}, {1}, {2}, {3}, {4}, power2(200, 0)} {
		for _, n := range []api.Nat{nil, {0}, {0, 0}, {1}, {1, 0}, {4}, {6}, {10}, {2, 1}, power2(4095, 0), power2(4096, 0), power2(4096, 2)} {
			if modarith.Strong(n, w) {
				t.Errorf("Strong(%x, %x) is true", n, w)
			}
		}
		for _, n := range []api.Nat{{2}, {2, 0, 0}} {
			if !modarith.Strong(n, w) {
				t.Errorf("Strong(%x, %x) is false", n, w)
			}
		}
	}
}

// P2.2: Strong of numbers of 4,096 bits and of more, and with witnesses of any
// length.
func TestStrongLengths(t *testing.T) {
	n := power2(4096, -1)
	for _, w := range []api.Nat{nil, {1}, n, power2(4096, -2)} {
		if !modarith.Strong(n, w) || !modarith.Strong(append(slices.Clone(n), 0, 0), w) {
			t.Error("Strong of 4,096 bits is false")
		}
	}
	for _, n := range []api.Nat{power2(4096, 1), power2(9000, 1)} {
		for _, w := range []api.Nat{nil, {1}, n} {
			if modarith.Strong(n, w) {
				t.Error("Strong of more than 4,096 bits is true")
			}
		}
	}
	seven := toBig(api.Nat{7})
	for k := range int64(7) {
		w := power2(5000, k)
		if modarith.Strong(api.Nat{2047}, w) != strong(big.NewInt(2047), toBig(w)) {
			t.Errorf("Strong(2047, 2^5000 + %d)", k)
		}
	}
	if !modarith.Strong(api.Nat{7}, fromBig(seven.Lsh(seven, 5000))) {
		t.Error("Strong(7, 7 * 2^5000) is false")
	}
}

// counted is ws, and counts in starts how often it is used, and in witnesses
// how many it yields.
func counted(ws iter.Seq[api.Nat], starts, witnesses *int) iter.Seq[api.Nat] {
	return func(yield func(api.Nat) bool) {
		*starts++
		for w := range ws {
			if *witnesses++; !yield(w) {
				return
			}
		}
	}
}

// P2.2: what Probable answers, and how far it uses its witnesses.
func TestProbable(t *testing.T) {
	for _, c := range []struct {
		n         api.Nat
		ws        []uint64
		want      bool
		starts    int
		witnesses int
	}{
		{api.Nat{2047}, []uint64{2, 3, 5, 7}, false, 1, 2},
		{api.Nat{2047}, []uint64{2}, true, 1, 1},
		{api.Nat{2047}, []uint64{1, 2046, 2047, 0, 2}, true, 1, 5},
		{api.Nat{2047}, nil, true, 1, 0},
		{api.Nat{9, 0}, nil, true, 1, 0},
		{api.Nat{9}, []uint64{2, 3}, false, 1, 1},
		{api.Nat{3}, []uint64{2, 3, 5, 7}, true, 1, 4},
		{api.Nat{65537}, []uint64{2, 3, 5, 7}, true, 1, 4},
		{power2(4096, -1), []uint64{1, 2}, false, 1, 2},
		{power2(4096, -1), []uint64{1}, true, 1, 1},
		{nil, []uint64{1}, false, 0, 0},
		{api.Nat{0, 0}, []uint64{1}, false, 0, 0},
		{api.Nat{1}, []uint64{1}, false, 0, 0},
		{api.Nat{2}, []uint64{1}, true, 0, 0},
		{api.Nat{2, 0}, []uint64{1}, true, 0, 0},
		{api.Nat{4}, []uint64{1}, false, 0, 0},
		{api.Nat{2, 1}, []uint64{1}, false, 0, 0},
		{power2(4096, 0), []uint64{1}, false, 0, 0},
		{power2(4096, 1), []uint64{1}, false, 0, 0},
	} {
		var starts, witnesses int
		got := modarith.Probable(c.n, counted(from(c.ws...), &starts, &witnesses))
		if got != c.want || starts != c.starts || witnesses != c.witnesses {
			t.Errorf("Probable of %x with %d: %v, %d uses, %d witnesses", c.n, c.ws, got, starts, witnesses)
		}
	}
}

// P2.2: Probable without witnesses.
func TestProbableNil(t *testing.T) {
	for _, c := range []struct {
		n    api.Nat
		want bool
	}{
		{nil, false}, {api.Nat{1}, false}, {api.Nat{2}, true}, {api.Nat{2, 0}, true}, {api.Nat{3}, true}, {api.Nat{4}, false},
		{api.Nat{9}, true}, {api.Nat{0, 1}, false}, {api.Nat{2, 1}, false}, {power2(4096, -1), true}, {power2(4096, 1), false},
	} {
		if modarith.Probable(c.n, nil) != c.want {
			t.Errorf("Probable(%x, nil) is not %v", c.n, c.want)
		}
	}
}

// P2.2: Probable with Few finds the primes.
func TestProbableFew(t *testing.T) {
	for n := range uint64(5000) {
		if want := big.NewInt(int64(n)).ProbablyPrime(0); modarith.Probable(api.Nat{n}, modarith.Few()) != want {
			t.Errorf("Probable(%d, Few()) is not %v", n, want)
		}
	}
	// The least composite that is Strong for all witnesses of Few.
	if !modarith.Probable(number("318665857834031151167461"), modarith.Few()) {
		t.Error("Probable asks for more than Few")
	}
}

// P0.1: iterators that do not keep to the rules end, and Probable with them.
func TestProbableBadIterators(t *testing.T) {
	goesOn := func(yield func(api.Nat) bool) {
		for _, w := range []uint64{2, 3, 5, 7} {
			yield(api.Nat{w})
		}
	}
	endless := func(yield func(api.Nat) bool) {
		for w := uint64(2); ; w++ {
			yield(api.Nat{w})
		}
	}
	fails := func(yield func(api.Nat) bool) {
		if yield(api.Nat{2}) {
			panic("no further witnesses")
		}
	}
	for name, ws := range map[string]iter.Seq[api.Nat]{"goes on": goesOn, "endless": endless, "fails": fails} {
		if modarith.Probable(api.Nat{2047}, ws) {
			t.Errorf("%s: 2047 is Probable", name)
		}
	}
	if !modarith.Probable(api.Nat{65537}, goesOn) {
		t.Error("65537 is not Probable")
	}
}

// P0.5: an iterator that changes the number does not change the answer.
func TestProbableChanged(t *testing.T) {
	n := api.Nat{2047}
	ws := func(yield func(api.Nat) bool) {
		n[0] = 65537
		if yield(api.Nat{2}) {
			yield(api.Nat{3})
		}
	}
	if modarith.Probable(n, ws) {
		t.Error("Probable goes by the changed number")
	}
}

// P2.3: Few can be used again, left early and nested, and gives out memory of
// its own.
func TestFew(t *testing.T) {
	want := []uint64{2, 3, 5, 7, 11, 13, 17, 19, 23, 29, 31, 37}
	few := modarith.Few()
	calls := 0
	few(func(api.Nat) bool { calls++; return calls < 3 })
	if calls != 3 {
		t.Errorf("left after 3 witnesses, Few yields %d", calls)
	}
	for range 2 {
		var got []uint64
		inner := 0
		for w := range few {
			if len(w) != 1 {
				t.Fatalf("Few yields %x", w)
			}
			got = append(got, w[0])
			for v := range few {
				inner++
				v = v[:cap(v)]
				for i := range v {
					v[i] = 4
				}
			}
			if w[0] != got[len(got)-1] {
				t.Fatal("Few yields the same memory twice")
			}
			w[0] = 4
		}
		if !slices.Equal(got, want) || inner != 12*12 {
			t.Errorf("Few yields %d and, within, %d", got, inner)
		}
	}
}

// next is the least odd p from n on, greater than 2, that is prime and for
// which p - 1 and e have no common divisor greater than 1, in another
// arithmetic.
func next(n, e *big.Int) *big.Int {
	p := new(big.Int).Set(n)
	if p.Cmp(big.NewInt(3)) < 0 {
		p.SetUint64(3)
	}
	p.SetBit(p, 0, 1)
	for ; ; p.Add(p, big.NewInt(2)) {
		less := new(big.Int).Sub(p, big.NewInt(1))
		if new(big.Int).GCD(nil, nil, less, e).Cmp(big.NewInt(1)) == 0 && p.ProbablyPrime(5) {
			return p
		}
	}
}

// P2.3: Next holds against another arithmetic.
func TestNext(t *testing.T) {
	for n := range uint64(1500) {
		for _, e := range []uint64{1, 3, 5, 15, 17, 105, 65537} {
			p, ok := modarith.Next(api.Nat{n, 0}, api.Nat{e, 0})
			yes(t, p, ok, next(new(big.Int).SetUint64(n), new(big.Int).SetUint64(e)), "Next", n, e)
		}
	}
	p := newPicker(5)
	for _, n := range []int{1, 2, 4, 8} {
		for range 5 {
			start, e := p.odd(n), p.odd(2)
			got, ok := modarith.Next(start, e)
			yes(t, got, ok, next(toBig(start), toBig(e)), "Next", start, e)
			again, ok := modarith.Next(got, e)
			yes(t, again, ok, toBig(got), "Next of what it gave")
		}
	}
}

// P2.3: the examples of Next, and its least numbers.
func TestNextExamples(t *testing.T) {
	for _, c := range []struct {
		n, e api.Nat
		want string
	}{
		{api.Nat{8}, api.Nat{3}, "11"}, {api.Nat{24}, api.Nat{65537}, "29"},
		{nil, api.Nat{1}, "3"}, {api.Nat{0, 0}, api.Nat{1, 0}, "3"}, {api.Nat{1}, api.Nat{3}, "3"}, {api.Nat{2}, api.Nat{1}, "3"},
		{api.Nat{3}, api.Nat{5}, "3"}, {api.Nat{4}, api.Nat{1}, "5"}, {api.Nat{37}, api.Nat{1}, "37"}, {api.Nat{38}, api.Nat{1}, "41"},
		{api.Nat{7}, api.Nat{3}, "11"}, {api.Nat{11}, api.Nat{5}, "13"}, {api.Nat{12}, api.Nat{15}, "17"},
		{api.Nat{top}, api.Nat{1}, "18446744073709551629"},
		// composite, but Strong for all witnesses of Few
		{number("318665857834031151167460"), api.Nat{1}, "318665857834031151167461"},
	} {
		p, ok := modarith.Next(c.n, c.e)
		yes(t, p, ok, toBig(number(c.want)), "Next", c.n, c.e)
	}
}

// P2.3: Next has no answer for an even e, nor for an n that is too long.
func TestNextNone(t *testing.T) {
	for _, e := range []api.Nat{nil, {0}, {0, 0}, {2}, {4}, {0, 1}, {2, 1}, power2(5000, 0)} {
		for _, n := range []api.Nat{nil, {3}, {8}, power2(100, 1)} {
			p, ok := modarith.Next(n, e)
			no(t, p, ok, "Next", n, e)
		}
	}
	for _, n := range []api.Nat{power2(2048, 0), power2(2048, 981), power2(4096, 1), append(power2(2048, 0), 0)} {
		for _, e := range []api.Nat{{1}, {3}, {4}} {
			p, ok := modarith.Next(n, e)
			no(t, p, ok, "Next", n, e)
		}
	}
}

// P2.3: Next from the greatest number of 2,048 bits, to one that is longer, and
// with an e that is longer than a modulus may be.
func TestNextLong(t *testing.T) {
	n, e := power2(2048, -1), power2(5000, 1)
	p, ok := modarith.Next(append(slices.Clone(n), 0, 0), e)
	yes(t, p, ok, next(toBig(n), toBig(e)), "Next of 2^2048 - 1")
}
