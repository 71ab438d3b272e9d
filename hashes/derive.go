package hashes

import (
	"slices"

	"bailey/api"
)

// keyed is HMAC with a key: its two hashes, to which the key is written, so
// that PBKDF2 need not write it anew in every round.
type keyed struct {
	inner, outer *Hash
}

// withKey returns HMAC with the key, for a kind that is valid.
func withKey(kind int, key []byte) keyed {
	if len(key) > Block(kind) {
		key = Of(kind, key)
	}
	k := keyed{New(kind), New(kind)}
	k.inner.Write(masked(key, 0x36, Block(kind)))
	k.outer.Write(masked(key, 0x5c, Block(kind)))
	return k
}

// masked returns the key, with zeros up to n bytes, each XOR mask.
func masked(key []byte, mask byte, n int) []byte {
	out := make([]byte, n)
	copy(out, key)
	for i := range out {
		out[i] ^= mask
	}
	return out
}

// of returns the HMAC of the parts, one after the other.
func (k keyed) of(parts ...[]byte) []byte {
	inner, outer := k.inner.Copy(), k.outer.Copy()
	for _, part := range parts {
		inner.Write(part)
	}
	outer.Write(inner.Sum())
	return outer.Sum()
}

// HMAC returns the HMAC with the key of the parts, one after the other, or nil
// if kind is not valid.
func HMAC(kind int, key []byte, parts ...[]byte) []byte {
	if !valid(kind) {
		return nil
	}
	return withKey(kind, key).of(parts...)
}

// MGF1 returns the first n bytes of the mask of seed, or nil if n is out of
// range or kind is not valid.
func MGF1(kind int, seed []byte, n int) []byte {
	if !valid(kind) || n < 1 || n > api.MaxOut {
		return nil
	}
	return fill(n, func(i int) []byte { return Of(kind, seed, counter(i)) })
}

// fill returns the first n bytes of part(0), part(1) and so on, none of which
// is empty.
func fill(n int, part func(i int) []byte) []byte {
	var out []byte
	for i := 0; len(out) < n; i++ {
		out = append(out, part(i)...)
	}
	return slices.Clone(out[:n])
}

// counter returns i in 4 bytes.
func counter(i int) []byte {
	return []byte{byte(i >> 24), byte(i >> 16), byte(i >> 8), byte(i)}
}

// maxSteps is the greatest number of rounds of a PBKDF2, of all its blocks
// together: it bounds the time that one call can take.
const maxSteps = 65536

// PBKDF2 returns n bytes that are derived from pin and salt, or nil if rounds,
// n or both together are out of range, or kind is not valid.
func PBKDF2(kind int, pin, salt []byte, rounds, n int) []byte {
	if !valid(kind) || rounds < 1 || rounds > maxSteps || n < 1 || n > api.MaxOut {
		return nil
	}
	size := Size(kind)
	if rounds*((n+size-1)/size) > maxSteps {
		return nil
	}
	prf := withKey(kind, pin)
	return fill(n, func(i int) []byte { return prf.repeat(rounds, salt, counter(i+1)) })
}

// repeat returns F of PBKDF2: the XOR of the HMAC of the parts, of the HMAC of
// that, and so on, rounds of them.
func (k keyed) repeat(rounds int, parts ...[]byte) []byte {
	last := k.of(parts...)
	sum := slices.Clone(last)
	for range rounds - 1 {
		last = k.of(last)
		for i, b := range last {
			sum[i] ^= b
		}
	}
	return sum
}
