package drbg_test

import (
	"math"
	"math/rand"
	"testing"

	"bailey/api"
	"bailey/drbg"
	"bailey/limb"
)

// P4.2: powers of 2 and their neighbours, of all lengths.
func TestBelowLengths(t *testing.T) {
	p := newPair(t, []byte("lengths"))
	for i := range 600 {
		p.below(power(i, 0), "2 to", i)
		p.below(ones(i+1, 0), "ones", i+1)
	}
	for i := 600; i < 4096; i += 61 {
		p.below(power(i, 0), "2 to", i)
		p.below(ones(i+1, 0), "ones", i+1)
	}
}

// P4.2: any limit of any length, with and without zero limbs at its end.
func TestBelowAny(t *testing.T) {
	p := newPair(t, []byte("any"))
	random := rand.New(rand.NewSource(6))
	for range 400 {
		m := make(api.Nat, 1+random.Intn(64))
		for i := range m {
			m[i] = random.Uint64()
		}
		m[len(m)-1] = m[len(m)-1]>>random.Intn(64) | 1
		for range random.Intn(4) {
			m = append(m, 0)
		}
		p.below(m, m)
	}
}

// P4.2: every number less than a small limit comes, and no other.
func TestBelowSmall(t *testing.T) {
	p := newPair(t, []byte("small"))
	for limit := uint64(1); limit <= 20; limit++ {
		seen := map[uint64]bool{}
		for range 400 {
			got, ok := p.d.Below(limb.Of(limit))
			want := p.m.below(toBig(limb.Of(limit)))
			sameNat(t, got, want, limit)
			if !ok || want.Uint64() >= limit {
				t.Fatalf("below %d: %v, %v", limit, got, ok)
			}
			seen[want.Uint64()] = true
		}
		if len(seen) != int(limit) {
			t.Errorf("below %d: %d numbers come", limit, len(seen))
		}
	}
}

// P4.2: 1, below which 0 alone is; it draws all the same.
func TestBelowOne(t *testing.T) {
	p := newPair(t, []byte("one"))
	for zeros := range 4 {
		p.below(power(0, zeros), zeros)
		p.bytes(20, zeros)
	}
}

// P4.2: zero limbs at the end count for nothing, few or many.
func TestBelowZeroLimbs(t *testing.T) {
	for _, i := range []int{0, 1, 63, 64, 65, 100, 4095} {
		for _, zeros := range []int{1, 2, 64, 65, 1000, 100000} {
			p := newPair(t, []byte("zeros"))
			p.below(power(i, zeros), i, zeros)
			p.below(ones(i+1, zeros), i+1, zeros)
			p.bytes(20, i, zeros)
		}
	}
}

// P4.2: limits of 4,096 bits.
func TestBelowGreatest(t *testing.T) {
	p := newPair(t, []byte("greatest"))
	for _, m := range []api.Nat{ones(4096, 0), ones(4096, 1), power(4095, 0), power(4095, 3)} {
		p.below(m, "4096 bits")
		p.below(m, "4096 bits again")
	}
}

// P4.2: 0 and limits of more than 4,096 bits are refused, which changes
// nothing.
func TestBelowRefused(t *testing.T) {
	p := newPair(t, []byte("refuse"))
	wrong := []api.Nat{nil, {}, {0}, {0, 0, 0}, make(api.Nat, 64), make(api.Nat, 65), make(api.Nat, 100000),
		power(4096, 0), power(4096, 5), power(4097, 0), ones(4097, 0), power(4159, 0), ones(4160, 1), power(8192, 0), ones(65536, 0), power(6400000, 2)}
	for i, m := range wrong {
		refused(t, p.d, m, i)
		p.left(i, "refused first")
	}
	for i, m := range wrong {
		p.bytes(10, i, "before")
		refused(t, p.d, m, i)
		p.left(i, "refused")
		p.below(api.Nat{math.MaxUint64}, i, "behind")
		refused(t, p.d, m, i)
		p.bytes(10, i, "behind")
	}
}

// P4.2: Below is what Bytes of the same generator gives.
func TestBelowIsBytes(t *testing.T) {
	for _, k := range []int{1, 7, 8, 9, 63, 64, 65, 256, 384, 521, 4096} {
		m := ones(k, 0)
		got, _ := drbg.New([]byte("same")).Below(m)
		drawn := limb.FromBytes(drbg.New([]byte("same")).Bytes((k + 71) / 8))
		_, want, _ := limb.Quo(drawn, m)
		sameNat(t, got, toBig(want), k)
	}
}
