package limb_test

import (
	"math/big"
	"math/rand"
	"testing"

	"bailey/api"
)

const top = 1<<64 - 1

// toBig is a number's value, by arithmetic that is not the program's.
func toBig(a api.Nat) *big.Int {
	z := new(big.Int)
	for i := len(a) - 1; i >= 0; i-- {
		z.Lsh(z, 64)
		z.Or(z, new(big.Int).SetUint64(a[i]))
	}
	return z
}

// same fails the test if got is not want in normal form.
func same(t *testing.T, got api.Nat, want *big.Int, what ...any) {
	t.Helper()
	if len(got) > 0 && got[len(got)-1] == 0 {
		t.Fatalf("%v: %x is not in normal form", what, got)
	}
	if toBig(got).Cmp(want) != 0 {
		t.Fatalf("%v: got %x, want %x", what, toBig(got), want)
	}
}

// zero fails the test if got is not zero in normal form.
func zero(t *testing.T, got api.Nat, what ...any) {
	t.Helper()
	if len(got) != 0 {
		t.Fatalf("%v: got %x, want zero", what, got)
	}
}

// picker makes numbers of limbs that carries and borrows are fond of.
type picker struct{ *rand.Rand }

func newPicker(seed int64) picker { return picker{rand.New(rand.NewSource(seed))} }

func (p picker) limb() uint64 {
	switch p.Intn(8) {
	case 0:
		return 0
	case 1:
		return top
	case 2:
		return 1 << 63
	case 3:
		return 1<<63 - 1
	case 4:
		return uint64(p.Intn(3))
	}
	return p.Uint64()
}

// nat makes a number of at most n limbs, often with limbs at the end that are
// 0.
func (p picker) nat(n int) api.Nat {
	a := make(api.Nat, p.Intn(n+1))
	for i := range a {
		a[i] = p.limb()
	}
	if p.Intn(4) == 0 {
		a = append(a, 0, 0)
	}
	return a
}
