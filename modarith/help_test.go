package modarith_test

import (
	"iter"
	"math/big"
	"math/rand"
	"testing"

	"bailey/api"
)

const top = 1<<64 - 1

// toBig is a number's value, by arithmetic that is not the program's.
func toBig(a api.Nat) *big.Int {
	z := new(big.Int)
	for i := len(a) - 1; i >= 0; i-- {
		z.Lsh(z, 64)
		z.Or(z, new(big.Int).SetUint64(a[i]))
	}
	return z
}

// fromBig is the number in normal form with the value of x.
func fromBig(x *big.Int) api.Nat {
	var a api.Nat
	for y, low := new(big.Int).Set(x), new(big.Int).SetUint64(top); y.Sign() > 0; y.Rsh(y, 64) {
		a = append(a, new(big.Int).And(y, low).Uint64())
	}
	return a
}

// number is the number with these digits.
func number(digits string) api.Nat {
	x, ok := new(big.Int).SetString(digits, 10)
	if !ok {
		panic("not a number: " + digits)
	}
	return fromBig(x)
}

// small is n, in normal form.
func small(n uint64) api.Nat {
	return fromBig(new(big.Int).SetUint64(n))
}

// power2 is 2^n + d.
func power2(n int, d int64) api.Nat {
	x := new(big.Int).Lsh(big.NewInt(1), uint(n))
	return fromBig(x.Add(x, big.NewInt(d)))
}

// same fails the test if got is not want in normal form.
func same(t *testing.T, got api.Nat, want *big.Int, what ...any) {
	t.Helper()
	if len(got) > 0 && got[len(got)-1] == 0 {
		t.Fatalf("%v: %x is not in normal form", what, got)
	}
	if toBig(got).Cmp(want) != 0 {
		t.Fatalf("%v: got %x, want %x", what, toBig(got), want)
	}
}

// yes fails the test if got is not want in normal form, or ok is false.
func yes(t *testing.T, got api.Nat, ok bool, want *big.Int, what ...any) {
	t.Helper()
	if !ok {
		t.Fatalf("%v is false", what)
	}
	same(t, got, want, what...)
}

// no fails the test if got and ok do not say that there is no result.
func no(t *testing.T, got api.Nat, ok bool, what ...any) {
	t.Helper()
	if ok || len(got) != 0 {
		t.Fatalf("%v: got %x, %v, want zero and false", what, got, ok)
	}
}

// from is an iterator over the numbers of list.
func from(list ...uint64) iter.Seq[api.Nat] {
	return func(yield func(api.Nat) bool) {
		for _, n := range list {
			if !yield(small(n)) {
				return
			}
		}
	}
}

// picker makes numbers of limbs that carries and borrows are fond of.
type picker struct{ *rand.Rand }

func newPicker(seed int64) picker { return picker{rand.New(rand.NewSource(seed))} }

func (p picker) limb() uint64 {
	switch p.Intn(8) {
	case 0:
		return 0
	case 1:
		return top
	case 2:
		return 1 << 63
	case 3:
		return uint64(p.Intn(3))
	}
	return p.Uint64()
}

// nat makes a number of at most n limbs, often with limbs at the end that are
// 0.
func (p picker) nat(n int) api.Nat {
	a := make(api.Nat, p.Intn(n+1))
	for i := range a {
		a[i] = p.limb()
	}
	if p.Intn(4) == 0 {
		a = append(a, 0, 0)
	}
	return a
}

// odd makes an odd number of n limbs that is greater than 2.
func (p picker) odd(n int) api.Nat {
	a := make(api.Nat, n)
	for i := range a {
		a[i] = p.Uint64()
	}
	a[0] |= 3
	a[n-1] |= 1 << 63
	return a
}
