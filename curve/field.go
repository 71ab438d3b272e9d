package curve

import (
	"bailey/api"
	"bailey/limb"
	"bailey/modarith"
)

// field is the arithmetic of the numbers less than a prime. Results are new
// memory, in normal form.
type field struct{ prime api.Nat }

// sum returns a + b.
func (f field) sum(a, b api.Nat) api.Nat {
	s := limb.Add(a, b)
	if less, ok := limb.Sub(s, f.prime); ok {
		return less
	}
	return s
}

// difference returns a - b.
func (f field) difference(a, b api.Nat) api.Nat {
	if d, ok := limb.Sub(a, b); ok {
		return d
	}
	d, _ := limb.Sub(limb.Add(a, f.prime), b)
	return d
}

// triple returns 3a.
func (f field) triple(a api.Nat) api.Nat {
	return f.sum(f.sum(a, a), a)
}

// product returns a * b.
func (f field) product(a, b api.Nat) api.Nat {
	p, _ := modarith.Mul(a, b, f.prime)
	return p
}

// cross returns a*d + b*c.
func (f field) cross(a, b, c, d api.Nat) api.Nat {
	return f.sum(f.product(a, d), f.product(b, c))
}

// inverse returns 1 / a, where a is not 0.
func (f field) inverse(a api.Nat) api.Nat {
	i, _ := modarith.Inverse(a, f.prime)
	return i
}
