package curve

import (
	"slices"

	"bailey/api"
)

// domain is a curve, y^2 = x^3 - 3x + b modulo the prime, with its base point.
type domain struct {
	size  int // of a coordinate, in bytes
	prime api.Nat
	b     api.Nat
	order api.Nat
	base  api.Point
}

// domainOf returns the curve with the number c, in new memory, or false if
// there is none.
func domainOf(c int) (domain, bool) {
	switch c {
	case api.P256:
		return p256(), true
	case api.P384:
		return p384(), true
	}
	return domain{}, false
}

// number returns the number with these limbs, the highest first, which is how
// FIPS 186 writes them.
func number(limbs ...uint64) api.Nat {
	n := slices.Clone(limbs)
	slices.Reverse(n)
	return n
}

// p256 is the curve P-256 of FIPS 186.
func p256() domain {
	return domain{
		size:  32,
		prime: number(0xffffffff00000001, 0x0000000000000000, 0x00000000ffffffff, 0xffffffffffffffff),
		b:     number(0x5ac635d8aa3a93e7, 0xb3ebbd55769886bc, 0x651d06b0cc53b0f6, 0x3bce3c3e27d2604b),
		order: number(0xffffffff00000000, 0xffffffffffffffff, 0xbce6faada7179e84, 0xf3b9cac2fc632551),
		base: api.Point{
			X: number(0x6b17d1f2e12c4247, 0xf8bce6e563a440f2, 0x77037d812deb33a0, 0xf4a13945d898c296),
			Y: number(0x4fe342e2fe1a7f9b, 0x8ee7eb4a7c0f9e16, 0x2bce33576b315ece, 0xcbb6406837bf51f5),
		},
	}
}

// p384 is the curve P-384 of FIPS 186.
func p384() domain {
	return domain{
		size: 48,
		prime: number(0xffffffffffffffff, 0xffffffffffffffff, 0xffffffffffffffff,
			0xfffffffffffffffe, 0xffffffff00000000, 0x00000000ffffffff),
		b: number(0xb3312fa7e23ee7e4, 0x988e056be3f82d19, 0x181d9c6efe814112,
			0x0314088f5013875a, 0xc656398d8a2ed19d, 0x2a85c8edd3ec2aef),
		order: number(0xffffffffffffffff, 0xffffffffffffffff, 0xffffffffffffffff,
			0xc7634d81f4372ddf, 0x581a0db248b0a77a, 0xecec196accc52973),
		base: api.Point{
			X: number(0xaa87ca22be8b0537, 0x8eb1c71ef320ad74, 0x6e1d3b628ba79b98,
				0x59f741e082542a38, 0x5502f25dbf55296c, 0x3a545e3872760ab7),
			Y: number(0x3617de4a96262c6f, 0x5d9e98bf9292dc29, 0xf8f41dbd289a147c,
				0xe9da3113b5f0b8c0, 0x0a60b1ce1d7e819d, 0x7a431d7c90ea0e5f),
		},
	}
}
