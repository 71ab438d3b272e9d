package rsa

import (
	"bytes"
	"slices"
	"testing"

	"bailey/api"
	"bailey/limb"
)

// P7.1: what is drawn becomes a candidate, and one that has a bit too many is
// left out. (No generator is known to draw bytes that lead there.)
func TestCandidate(t *testing.T) {
	for _, c := range []struct {
		drawn []byte
		e     uint64
		want  api.Nat
	}{
		{bytes.Repeat([]byte{0xff}, 8), 1, nil},
		{[]byte{0xff, 0xff, 0xff, 0xff, 0xff, 0xff, 0xff, 0xc6}, 1, nil},                         // 2^64 - 58
		{[]byte{0xff, 0xff, 0xff, 0xff, 0xff, 0xff, 0xff, 0xc5}, 1, api.Nat{1<<64 - 59}},         // the last prime of 64 bits
		{[]byte{0x3f, 0xff, 0xff, 0xff, 0xff, 0xff, 0xff, 0xc4}, 1, api.Nat{1<<64 - 59}},         // the bits are set
		{[]byte{0xff, 0xff, 0xff, 0xff, 0xff, 0xff, 0xff, 0xc5}, 3, api.Nat{1<<64 - 59}},         // less 1, 3 doesn't divide it
		{[]byte{0xff, 0xff, 0xff, 0xff, 0xff, 0xff, 0xff, 0xc5}, 11, nil},                        // 11 does
		{bytes.Repeat([]byte{0}, 8), 1, api.Nat{0xc000000000000001 + 16}},                        // no prime is nearer
		{append([]byte{0}, bytes.Repeat([]byte{0}, 8)...), 1, api.Nat{0x0000000000000011, 0xc0}}, // of 72 bits
		{bytes.Repeat([]byte{0xff}, 9), 1, nil},
		{bytes.Repeat([]byte{0xff}, 256), 65537, nil},
	} {
		p, ok := candidate(slices.Clone(c.drawn), limb.Of(c.e))
		if ok != (c.want != nil) || !slices.Equal(p, c.want) {
			t.Errorf("%x, %d: %x, %v, want %x", c.drawn, c.e, p, ok, c.want)
		}
	}
}

// P7.2: the second prime is the next one that differs from the first, and no
// more are taken.
func TestFirstTwo(t *testing.T) {
	for _, c := range []struct {
		primes []uint64
		taken  int
	}{
		{[]uint64{11, 13, 17}, 2},
		{[]uint64{13, 11, 13}, 2},
		{[]uint64{11, 11, 13, 17}, 3},
		{[]uint64{11, 11, 11, 11, 13, 11}, 5},
	} {
		taken := 0
		each := func(yield func(api.Nat) bool) {
			for _, p := range c.primes {
				if taken++; !yield(limb.Of(p)) {
					return
				}
			}
		}
		p, q := firstTwo(each)
		if !slices.Equal(p, limb.Of(c.primes[0])) || !slices.Equal(q, limb.Of(c.primes[c.taken-1])) || taken != c.taken {
			t.Errorf("%d: %d and %d, of %d taken", c.primes, p, q, taken)
		}
	}
}
