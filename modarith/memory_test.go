package modarith_test

import (
	"slices"
	"testing"

	"bailey/api"
	"bailey/modarith"
)

// calls are the functions that take numbers.
var calls = map[string]func(a, b, m api.Nat) api.Nat{
	"Mod":      func(a, _, m api.Nat) api.Nat { z, _ := modarith.Mod(a, m); return z },
	"Mul":      func(a, b, m api.Nat) api.Nat { z, _ := modarith.Mul(a, b, m); return z },
	"Exp":      func(a, b, m api.Nat) api.Nat { z, _ := modarith.Exp(a, b, m); return z },
	"Gcd":      func(a, _, m api.Nat) api.Nat { return modarith.Gcd(a, m) },
	"Inverse":  func(a, _, m api.Nat) api.Nat { z, _ := modarith.Inverse(a, m); return z },
	"Strong":   func(a, _, m api.Nat) api.Nat { modarith.Strong(m, a); return nil },
	"Probable": func(_, _, m api.Nat) api.Nat { modarith.Probable(m, modarith.Few()); return nil },
	"Next":     func(a, b, _ api.Nat) api.Nat { z, _ := modarith.Next(a, b); return z },
}

// withRoom is a with spare capacity, in which no call may write.
func withRoom(a api.Nat) api.Nat {
	room := append(append(make(api.Nat, 0, len(a)+4), a...), 7, 7, 7, 7)
	return room[:len(a)]
}

// P0.3: no call changes an argument, nor its spare capacity, and a result is
// memory of its own.
func TestMemory(t *testing.T) {
	list := []api.Nat{nil, {0}, {1}, {2}, {3, 0}, {top}, {5, 0}, {11}, {0, 1}, {13, 1}, {1, 2, 3}, {9, 8, 7, 6, 0}}
	for name, call := range calls {
		for _, first := range list {
			for _, second := range list {
				for _, third := range list {
					args := []api.Nat{withRoom(first), withRoom(second), withRoom(third)}
					var kept []api.Nat
					for _, a := range args {
						kept = append(kept, slices.Clone(a[:cap(a)]))
					}
					got := call(args[0], args[1], args[2])
					want := slices.Clone(got)
					got = got[:cap(got)]
					for i := range got {
						got[i] = 0xdead
					}
					for i, a := range args {
						if !slices.Equal(a[:cap(a)], kept[i]) {
							t.Fatalf("%s of %x, %x, %x changes an argument, or gives it out", name, first, second, third)
						}
					}
					if again := call(args[0], args[1], args[2]); !slices.Equal(again, want) {
						t.Fatalf("%s of %x, %x, %x: what was given out is kept", name, first, second, third)
					}
				}
			}
		}
	}
}

// P0.3: the same number as every argument.
func TestSameArgument(t *testing.T) {
	p := newPicker(6)
	for range 200 {
		a := p.nat(3)
		kept := slices.Clone(a)
		for name, call := range calls {
			want := call(slices.Clone(a), slices.Clone(a), slices.Clone(a))
			if got := call(a, a, a); !slices.Equal(got, want) || !slices.Equal(a, kept) {
				t.Fatalf("%s of %x thrice: %x", name, kept, got)
			}
		}
	}
}
