package ecdsa

import (
	"encoding/hex"
	"testing"

	"bailey/api"
	"bailey/curve"
	"bailey/hashes"
	"bailey/limb"
)

// P10.2: r is x modulo the order, and s takes that r. No k is known that leads
// to an x of the order or above it, so that the inner function is asked.
func TestNumbers(t *testing.T) {
	for _, c := range []int{api.P256, api.P384} {
		n, one := curve.Order(c), limb.Of(1)
		top, _ := limb.Sub(curve.Prime(c), one)
		gap, _ := limb.Sub(top, n)
		less, _ := limb.Sub(n, one)
		for _, v := range []struct{ x, r api.Nat }{
			{nil, nil}, {one, one}, {less, less}, {n, nil}, {limb.Add(n, one), one}, {top, gap},
		} {
			// With a key of 3, a k of 1 and z = 5, s is 5 + 3r.
			got := numbers(n, limb.Of(3), limb.Of(5), one, v.x)
			_, s, _ := limb.Quo(limb.Add(limb.Of(5), limb.Mul(limb.Of(3), v.r)), n)
			if limb.Cmp(got[0], v.r) != 0 || limb.Cmp(got[1], s) != 0 {
				t.Fatalf("curve %d, x %x: %x, want %x and %x", c, v.x, got, v.r, s)
			}
		}
	}
}

// P10.2: a k that RFC 6979, A.2.5 and A.2.6, tells leads to the signature that
// it tells, of the text "sample".
func TestNumbersPublished(t *testing.T) {
	from := func(text string) api.Nat {
		b, err := hex.DecodeString(text)
		if err != nil {
			t.Fatal(err)
		}
		return limb.FromBytes(b)
	}
	for _, v := range []struct {
		c, hash      int
		key, k, r, s string
	}{
		{
			api.P256, api.SHA1,
			"c9afa9d845ba75166b5c215767b1d6934e50c3db36e89b127b8a622b120f6721",
			"882905f1227fd620fbf2abf21244f0ba83d0dc3a9103dbbee43a1fb858109db4",
			"61340c88c3aaebeb4f6d667f672ca9759a6ccaa9fa8811313039ee4a35471d32",
			"6d7f147dac089441bb2e2fe8f7a3fa264b9c475098fdcf6e00d7c996e1b8b7eb",
		},
		{
			api.P256, api.SHA256,
			"c9afa9d845ba75166b5c215767b1d6934e50c3db36e89b127b8a622b120f6721",
			"a6e3c57dd01abe90086538398355dd4c3b17aa873382b0f24d6129493d8aad60",
			"efd48b2aacb6a8fd1140dd9cd45e81d69d2c877b56aaf991c34d0ea84eaf3716",
			"f7cb1c942d657c41d436c7a1b6e29f65f3e900dbb9aff4064dc4ab2f843acda8",
		},
		{
			api.P256, api.SHA512,
			"c9afa9d845ba75166b5c215767b1d6934e50c3db36e89b127b8a622b120f6721",
			"5fa81c63109badb88c1f367b47da606da28cad69aa22c4fe6ad7df73a7173aa5",
			"8496a60b5e9b47c825488827e0495b0e3fa109ec4568fd3f8d1097678eb97f00",
			"2362ab1adbe2b8adf9cb9edab740ea6049c028114f2460f96554f61fae3302fe",
		},
		{
			api.P384, api.SHA384,
			"6b9d3dad2e1b8c1c05b19875b6659f4de23c3b667bf297ba9aa47740787137d896d5724e4c70a825f872c9ea60d2edf5",
			"94ed910d1a099dad3254e9242ae85abde4ba15168eaf0ca87a555fd56d10fbca2907e3e83ba95368623b8c4686915cf9",
			"94edbb92a5ecb8aad4736e56c691916b3f88140666ce9fa73d64c4ea95ad133c81a648152e44acf96e36dd1e80fabe46",
			"99ef4aeb15f178cea1fe40db2603138f130e740a19624526203b6351d0a3a94fa329c145786e679e7b82c71a38628ac8",
		},
	} {
		fold, _ := Public(v.c, from(v.k))
		z := Number(v.c, hashes.Of(v.hash, []byte("sample")))
		got := numbers(curve.Order(v.c), from(v.key), z, from(v.k), fold.X)
		if limb.Cmp(got[0], from(v.r)) != 0 || limb.Cmp(got[1], from(v.s)) != 0 {
			t.Fatalf("curve %d, k %s: %x, want %s and %s", v.c, v.k, got, v.r, v.s)
		}
	}
}
