package hashes

import (
	"math/bits"

	"bailey/api"
)

// starts are the words before the first block, by kind (FIPS 180-4, 5.3).
var starts = [...][8]uint64{
	api.SHA1: {
		0x67452301, 0xefcdab89, 0x98badcfe, 0x10325476, 0xc3d2e1f0,
	},
	api.SHA224: {
		0xc1059ed8, 0x367cd507, 0x3070dd17, 0xf70e5939,
		0xffc00b31, 0x68581511, 0x64f98fa7, 0xbefa4fa4,
	},
	api.SHA256: {
		0x6a09e667, 0xbb67ae85, 0x3c6ef372, 0xa54ff53a,
		0x510e527f, 0x9b05688c, 0x1f83d9ab, 0x5be0cd19,
	},
	api.SHA384: {
		0xcbbb9d5dc1059ed8, 0x629a292a367cd507, 0x9159015a3070dd17, 0x152fecd8f70e5939,
		0x67332667ffc00b31, 0x8eb44a8768581511, 0xdb0c2e0d64f98fa7, 0x47b5481dbefa4fa4,
	},
	api.SHA512: {
		0x6a09e667f3bcc908, 0xbb67ae8584caa73b, 0x3c6ef372fe94f82b, 0xa54ff53a5f1d36f1,
		0x510e527fade682d1, 0x9b05688c2b3e6c1f, 0x1f83d9abfb41bd6b, 0x5be0cd19137e2179,
	},
}

// roots are the constants of SHA-2 (FIPS 180-4, 4.2.3): the first 64 bits of
// the fractional parts of the cube roots of the first 80 primes. The words of
// 32 bits (4.2.2) are the first 32 bits of the first 64 of these parts, that
// is, the upper halves.
var roots = [80]uint64{
	0x428a2f98d728ae22, 0x7137449123ef65cd, 0xb5c0fbcfec4d3b2f, 0xe9b5dba58189dbbc,
	0x3956c25bf348b538, 0x59f111f1b605d019, 0x923f82a4af194f9b, 0xab1c5ed5da6d8118,
	0xd807aa98a3030242, 0x12835b0145706fbe, 0x243185be4ee4b28c, 0x550c7dc3d5ffb4e2,
	0x72be5d74f27b896f, 0x80deb1fe3b1696b1, 0x9bdc06a725c71235, 0xc19bf174cf692694,
	0xe49b69c19ef14ad2, 0xefbe4786384f25e3, 0x0fc19dc68b8cd5b5, 0x240ca1cc77ac9c65,
	0x2de92c6f592b0275, 0x4a7484aa6ea6e483, 0x5cb0a9dcbd41fbd4, 0x76f988da831153b5,
	0x983e5152ee66dfab, 0xa831c66d2db43210, 0xb00327c898fb213f, 0xbf597fc7beef0ee4,
	0xc6e00bf33da88fc2, 0xd5a79147930aa725, 0x06ca6351e003826f, 0x142929670a0e6e70,
	0x27b70a8546d22ffc, 0x2e1b21385c26c926, 0x4d2c6dfc5ac42aed, 0x53380d139d95b3df,
	0x650a73548baf63de, 0x766a0abb3c77b2a8, 0x81c2c92e47edaee6, 0x92722c851482353b,
	0xa2bfe8a14cf10364, 0xa81a664bbc423001, 0xc24b8b70d0f89791, 0xc76c51a30654be30,
	0xd192e819d6ef5218, 0xd69906245565a910, 0xf40e35855771202a, 0x106aa07032bbd1b8,
	0x19a4c116b8d2d0c8, 0x1e376c085141ab53, 0x2748774cdf8eeb99, 0x34b0bcb5e19b48a8,
	0x391c0cb3c5c95a63, 0x4ed8aa4ae3418acb, 0x5b9cca4f7763e373, 0x682e6ff3d6b2b8a3,
	0x748f82ee5defb2fc, 0x78a5636f43172f60, 0x84c87814a1f0ab72, 0x8cc702081a6439ec,
	0x90befffa23631e28, 0xa4506cebde82bde9, 0xbef9a3f7b2c67915, 0xc67178f2e372532b,
	0xca273eceea26619c, 0xd186b8c721c0c207, 0xeada7dd6cde0eb1e, 0xf57d4f7fee6ed178,
	0x06f067aa72176fba, 0x0a637dc5a2c898a6, 0x113f9804bef90dae, 0x1b710b35131c471b,
	0x28db77f523047d84, 0x32caab7b40c72493, 0x3c9ebe0a15c9bebc, 0x431d67c49c100d4c,
	0x4cc5d4becb3e42b6, 0x597f299cfc657e2a, 0x5fcb6fab3ad6faec, 0x6c44198c4a475817,
}

// word is a word of a hash function.
type word interface {
	uint32 | uint64
}

// choose is Ch: each bit of x chooses between those of y and z.
func choose[W word](x, y, z W) W {
	return x&y ^ ^x&z
}

// majority is Maj: what most of the bits are.
func majority[W word](x, y, z W) W {
	return x&y ^ x&z ^ y&z
}

// read32 is the i-th word of 32 bits of a block.
func read32(block []byte, i int) (w uint32) {
	for _, b := range block[4*i : 4*i+4] {
		w = w<<8 | uint32(b)
	}
	return w
}

// read64 is the i-th word of 64 bits of a block.
func read64(block []byte, i int) (w uint64) {
	for _, b := range block[8*i : 8*i+8] {
		w = w<<8 | uint64(b)
	}
	return w
}

// mixSHA1 takes a block into the words of SHA-1 (FIPS 180-4, 6.1.2).
func mixSHA1(words [8]uint64, block []byte) [8]uint64 {
	var w [80]uint32
	for t := range w {
		if t < 16 {
			w[t] = read32(block, t)
		} else {
			w[t] = bits.RotateLeft32(w[t-3]^w[t-8]^w[t-14]^w[t-16], 1)
		}
	}
	s := lower(words)
	a, b, c, d, e := s[0], s[1], s[2], s[3], s[4]
	for t, wt := range w {
		next := bits.RotateLeft32(a, 5) + bend(t, b, c, d) + e + wt
		a, b, c, d, e = next, a, bits.RotateLeft32(b, 30), c, d
	}
	return add32(s, [8]uint32{a, b, c, d, e})
}

// bend is f of SHA-1's step t with its constant (FIPS 180-4, 4.1.1, 4.2.1).
func bend(t int, x, y, z uint32) uint32 {
	switch t / 20 {
	case 0:
		return choose(x, y, z) + 0x5a827999
	case 1:
		return (x ^ y ^ z) + 0x6ed9eba1
	case 2:
		return majority(x, y, z) + 0x8f1bbcdc
	}
	return (x ^ y ^ z) + 0xca62c1d6
}

// mix32 takes a block into the words of SHA-224 and SHA-256 (FIPS 180-4,
// 6.2.2).
func mix32(words [8]uint64, block []byte) [8]uint64 {
	turn := bits.RotateLeft32 // to the right, where its number is negative
	var w [64]uint32
	for t := range w {
		if t < 16 {
			w[t] = read32(block, t)
			continue
		}
		x, y := w[t-15], w[t-2]
		w[t] = w[t-16] + w[t-7] + (turn(x, -7) ^ turn(x, -18) ^ x>>3) + (turn(y, -17) ^ turn(y, -19) ^ y>>10)
	}
	s := lower(words)
	a, b, c, d, e, f, g, h := s[0], s[1], s[2], s[3], s[4], s[5], s[6], s[7]
	for t, wt := range w {
		one := h + (turn(e, -6) ^ turn(e, -11) ^ turn(e, -25)) + choose(e, f, g) + uint32(roots[t]>>32) + wt
		two := (turn(a, -2) ^ turn(a, -13) ^ turn(a, -22)) + majority(a, b, c)
		a, b, c, d, e, f, g, h = one+two, a, b, c, d+one, e, f, g
	}
	return add32(s, [8]uint32{a, b, c, d, e, f, g, h})
}

// mix64 takes a block into the words of SHA-384 and SHA-512 (FIPS 180-4,
// 6.4.2).
func mix64(s [8]uint64, block []byte) [8]uint64 {
	turn := bits.RotateLeft64
	var w [80]uint64
	for t := range w {
		if t < 16 {
			w[t] = read64(block, t)
			continue
		}
		x, y := w[t-15], w[t-2]
		w[t] = w[t-16] + w[t-7] + (turn(x, -1) ^ turn(x, -8) ^ x>>7) + (turn(y, -19) ^ turn(y, -61) ^ y>>6)
	}
	a, b, c, d, e, f, g, h := s[0], s[1], s[2], s[3], s[4], s[5], s[6], s[7]
	for t, wt := range w {
		one := h + (turn(e, -14) ^ turn(e, -18) ^ turn(e, -41)) + choose(e, f, g) + roots[t] + wt
		two := (turn(a, -28) ^ turn(a, -34) ^ turn(a, -39)) + majority(a, b, c)
		a, b, c, d, e, f, g, h = one+two, a, b, c, d+one, e, f, g
	}
	for i, x := range [8]uint64{a, b, c, d, e, f, g, h} {
		s[i] += x
	}
	return s
}

// lower are the lower halves of the words.
func lower(words [8]uint64) (s [8]uint32) {
	for i, x := range words {
		s[i] = uint32(x)
	}
	return s
}

// add32 returns the sums of the words of 32 bits of s and v.
func add32(s, v [8]uint32) (words [8]uint64) {
	for i, x := range s {
		words[i] = uint64(x + v[i])
	}
	return words
}
