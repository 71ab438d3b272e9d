package ecdsa_test

import (
	"bytes"
	other "crypto/ecdsa"
	"crypto/rand"
	"math/big"
	"slices"
	"testing"

	"bailey/api"
	"bailey/drbg"
	"bailey/ecdsa"
)

// verifies fails the test if Verify does not answer want.
func verifies(t *testing.T, want bool, c int, pub api.Point, hash, sig []byte, what ...any) {
	t.Helper()
	if got := ecdsa.Verify(c, pub, hash, sig); got != want {
		t.Fatalf("%v: Verify(%d, %v, %x, %x) is %v", what, c, pub, hash, sig, got)
	}
}

// valid is a signature with its public key and its hash.
type valid struct {
	m         model
	pub       api.Point
	hash, sig []byte
}

// someValid are a signature of each curve, of a hash of this length.
func someValid(seed int64, length int) []valid {
	var list []valid
	for _, m := range models {
		key, hash := m.key(seed), some(seed, length)
		sig, _ := m.sign(key, hash, drbg.New(some(seed, 8)))
		list = append(list, valid{m, m.fold(key).point(), hash, sig})
	}
	return list
}

// P10.3: the signatures of RFC 6979, A.2.5 and A.2.6, of hashes shorter than
// the order, as long, and longer.
func TestVerifyPublished(t *testing.T) {
	for _, key := range published {
		for _, v := range key.vectors {
			hash, sig := hashes(v.text)[v.hash], toBytes(v.r+v.s)
			verifies(t, true, key.m.c, key.pub.point(), hash, sig, v)
			verifies(t, false, key.m.c, key.pub.point(), hash[1:], sig, v)
			verifies(t, false, key.m.c, key.m.mul(big.NewInt(2), key.pub).point(), hash, sig, v)
			verifies(t, false, 3-key.m.c, key.pub.point(), hash, sig, v)
		}
	}
}

// P10.3: signatures of another implementation.
func TestVerifyAnother(t *testing.T) {
	for _, m := range models {
		for i := range 10 {
			k, err := other.GenerateKey(m.curve, rand.Reader)
			if err != nil {
				t.Fatal(err)
			}
			hash := some(int64(i), 9*i+1)
			r, s, err := other.Sign(rand.Reader, k, hash)
			if err != nil {
				t.Fatal(err)
			}
			for _, pub := range (spot{k.X, k.Y}).ways() {
				verifies(t, true, m.c, pub, hash, m.bytes(r, s), "another's")
			}
		}
	}
}

// P10.3: signatures of hashes of every length, and the inverse of s, which does
// as well as s.
func TestVerifyLengths(t *testing.T) {
	for _, n := range []int{0, 1, 2, 7, 8, 19, 20, 28, 31, 32, 33, 40, 47, 48, 49, 63, 64, 65, 100, 1000} {
		for _, v := range someValid(int64(n), n) {
			verifies(t, true, v.m.c, v.pub, v.hash, v.sig, n)
			r, s := v.sig[:v.m.size], new(big.Int).SetBytes(v.sig[v.m.size:])
			verifies(t, true, v.m.c, v.pub, v.hash, append(bytes.Clone(r), v.m.bytes(v.m.minus(s))...), n)
		}
	}
}

// P10.3: a signature with a byte changed.
func TestVerifyChanged(t *testing.T) {
	for _, v := range someValid(20, 64) {
		for i := range v.sig {
			sig := bytes.Clone(v.sig)
			sig[i] ^= 1 << (i % 8)
			verifies(t, false, v.m.c, v.pub, v.hash, sig, i)
		}
	}
}

// P10.3: a signature that is too short or too long, above all by one, or none.
func TestVerifyLength(t *testing.T) {
	for _, v := range someValid(21, 32) {
		verifies(t, false, v.m.c, v.pub, v.hash, nil)
		verifies(t, false, v.m.c, v.pub, v.hash, []byte{})
		for n := range v.sig {
			verifies(t, false, v.m.c, v.pub, v.hash, v.sig[:n], n)
			verifies(t, false, v.m.c, v.pub, v.hash, v.sig[n+1:], n)
		}
		for _, n := range []int{1, 2, v.m.size, 2 * v.m.size, 1000, 70000} {
			verifies(t, false, v.m.c, v.pub, v.hash, append(bytes.Clone(v.sig), make([]byte, n)...), n)
			verifies(t, false, v.m.c, v.pub, v.hash, append(make([]byte, n), v.sig...), n)
		}
		r, s := v.sig[:v.m.size], v.sig[v.m.size:]
		for _, n := range []int{1, 16} {
			zeros := make([]byte, n)
			for _, wide := range [][]byte{slices.Concat(zeros, r, zeros, s), slices.Concat(r, zeros, s), slices.Concat(zeros, r, s), slices.Concat(r, s, zeros)} {
				verifies(t, false, v.m.c, v.pub, v.hash, wide, "r and s with zeros", n)
			}
		}
	}
}

// P10.3: another hash: with a bit changed where it counts, shorter, and empty;
// and bits that are beyond those that count.
func TestVerifyHash(t *testing.T) {
	for _, v := range someValid(22, 64) {
		for i := range v.hash {
			hash := bytes.Clone(v.hash)
			hash[i] ^= 1 << (i % 8)
			verifies(t, i >= v.m.size, v.m.c, v.pub, hash, v.sig, i)
		}
		for _, n := range []int{0, 1, 16, 31, 32, 33, 47, 48, 49, 63} {
			verifies(t, n >= v.m.size, v.m.c, v.pub, v.hash[:n], v.sig, n)
		}
		verifies(t, true, v.m.c, v.pub, append(bytes.Clone(v.hash), 1), v.sig)
		verifies(t, false, v.m.c, v.pub, append([]byte{0}, v.hash...), v.sig)
	}
	for _, v := range someValid(23, 20) {
		verifies(t, true, v.m.c, v.pub, append([]byte{0, 0}, v.hash...), v.sig, "zeros ahead")
		verifies(t, false, v.m.c, v.pub, append(bytes.Clone(v.hash), 0), v.sig, "zeros after")
		verifies(t, false, v.m.c, v.pub, nil, v.sig, "nil")
	}
}

// P10.3: a hash and the hash whose number is greater by the order are the same.
func TestVerifyModulo(t *testing.T) {
	for _, m := range models {
		for _, z := range []int64{0, 1, 12345} {
			key := m.key(24)
			hash, above := m.bytes(big.NewInt(z)), m.bytes(plus(m.N, z))
			sig, _ := m.sign(key, hash, drbg.New(nil))
			verifies(t, true, m.c, m.fold(key).point(), hash, sig, z)
			verifies(t, true, m.c, m.fold(key).point(), above, sig, z)
			verifies(t, false, m.c, m.fold(key).point(), m.bytes(plus(m.N, z+1)), sig, z)
		}
	}
}

// P10.3: public keys at the ends of their range, their inverses, and another
// key.
func TestVerifyKeys(t *testing.T) {
	for _, m := range models {
		for i, key := range m.edgeKeys() {
			hash := some(int64(i), 32)
			sig, _ := m.sign(key, hash, drbg.New(nil))
			for _, pub := range m.fold(key).ways() {
				verifies(t, true, m.c, pub, hash, sig, key)
			}
			verifies(t, false, m.c, m.fold(m.minus(key)).point(), hash, sig, key)
			verifies(t, false, m.c, m.fold(plus(key, 1)).point(), hash, sig, key)
			verifies(t, false, m.c, m.fold(m.key(25)).point(), hash, sig, key)
		}
	}
}

// P10.3: the point at infinity, points off the curve, and curves that are not
// valid.
func TestVerifyPoints(t *testing.T) {
	for _, v := range someValid(26, 32) {
		for _, pub := range append(v.m.offs(), v.m.nowheres()...) {
			verifies(t, false, v.m.c, pub, v.hash, v.sig)
		}
		for _, c := range append([]int{3 - v.m.c}, wrongCurves...) {
			for _, sig := range [][]byte{v.sig, nil, v.sig[:1], append(bytes.Clone(v.sig), v.sig...)} {
				verifies(t, false, c, v.pub, v.hash, sig)
				verifies(t, false, c, api.Point{Inf: true}, v.hash, sig)
				verifies(t, false, c, api.Point{}, nil, sig)
			}
		}
		inf := v.pub
		inf.Inf = true
		verifies(t, false, v.m.c, inf, v.hash, v.sig, "a good point that is said to be at infinity")
	}
}

// P10.3: with the point at infinity as the public key, r would be the
// x-coordinate of the z/s-fold of the base point alone.
func TestVerifyInfinity(t *testing.T) {
	for _, m := range models {
		z, k := m.key(27), m.key(28)
		sig := m.bytes(m.reduce(m.fold(k).x), m.over(z, k))
		for _, pub := range m.nowheres() {
			verifies(t, false, m.c, pub, m.bytes(z), sig)
		}
	}
}

// P10.3: r and s of zero, of the order and above it, on their own and together.
func TestVerifyRange(t *testing.T) {
	for _, v := range someValid(29, 32) {
		m := v.m
		r, s := new(big.Int).SetBytes(v.sig[:m.size]), new(big.Int).SetBytes(v.sig[m.size:])
		wrong := []*big.Int{new(big.Int), m.N, plus(m.N, 1), plus(m.N, 2), m.P, power2(uint(8*m.size), -1)}
		for _, x := range wrong {
			verifies(t, false, m.c, v.pub, v.hash, m.bytes(x, s), x)
			verifies(t, false, m.c, v.pub, v.hash, m.bytes(r, x), x)
			verifies(t, false, m.c, v.pub, nil, m.bytes(x, s), x)
			verifies(t, false, m.c, v.pub, nil, m.bytes(r, x), x)
			for _, y := range wrong {
				verifies(t, false, m.c, v.pub, v.hash, m.bytes(x, y), x, y)
				verifies(t, false, m.c, v.pub, nil, m.bytes(x, y), x, y)
			}
		}
	}
}

// keyFor is the public key for which r and s are a signature of z, where point
// is the sum of the folds: the one that is point times s less z times the base
// point, over r.
func (m model) keyFor(point spot, r, s, z *big.Int) spot {
	return m.mul(m.over(big.NewInt(1), r), m.add(m.mul(s, point), m.fold(m.minus(z))))
}

// P10.3: r and s at the ends of their range that do hold, and the same numbers
// with the order added, which do not.
func TestVerifyEnds(t *testing.T) {
	for _, m := range models {
		first, last := m.from(big.NewInt(1), 1), m.from(plus(m.N, -1), -1)
		for _, z := range []*big.Int{big.NewInt(0), big.NewInt(1), m.key(30), plus(m.N, 3)} {
			for _, s := range []*big.Int{big.NewInt(1), big.NewInt(2), m.key(31), plus(m.N, -1)} {
				for _, point := range []spot{first, last} {
					pub := m.keyFor(point, point.x, s, z).point()
					verifies(t, true, m.c, pub, m.bytes(z), m.bytes(point.x, s), z, s)
					if above := new(big.Int).Add(point.x, m.N); above.BitLen() <= 8*m.size {
						verifies(t, false, m.c, pub, m.bytes(z), m.bytes(above, s), z, s, "r above the order")
					}
					if above := new(big.Int).Add(s, m.N); above.BitLen() <= 8*m.size {
						verifies(t, false, m.c, pub, m.bytes(z), m.bytes(point.x, above), z, s, "s above the order")
					}
					verifies(t, false, m.c, pub, m.bytes(z), m.bytes(m.minus(point.x), s), z, s)
				}
			}
		}
	}
}

// P10.3: an x-coordinate that lies above the order: r is what it is modulo the
// order, and not itself.
func TestVerifyAbove(t *testing.T) {
	for _, m := range models {
		for _, start := range []*big.Int{plus(m.N, 1), plus(m.N, 100), new(big.Int).Rsh(new(big.Int).Add(m.N, m.P), 1)} {
			point := m.from(start, 1)
			if point.x.Cmp(m.N) < 0 || point.x.Cmp(m.P) >= 0 {
				t.Fatal(point)
			}
			r, s, z := m.reduce(point.x), m.key(32), m.key(33)
			pub := m.keyFor(point, r, s, z).point()
			verifies(t, true, m.c, pub, m.bytes(z), m.bytes(r, s), r)
			verifies(t, false, m.c, pub, m.bytes(z), m.bytes(point.x, s), r, "r itself")
			verifies(t, false, m.c, pub, m.bytes(z), m.bytes(plus(r, 1), s), r)
		}
	}
}

// P10.3: a sum that is the point at infinity.
func TestVerifyNowhere(t *testing.T) {
	for _, m := range models {
		for _, key := range m.edgeKeys() {
			for _, r := range []*big.Int{big.NewInt(1), big.NewInt(77), m.key(34), m.Gx, plus(m.N, -1)} {
				z := m.minus(m.times(r, key))
				verifies(t, false, m.c, m.fold(key).point(), m.bytes(z), m.bytes(r, m.key(35)), key, r)
			}
		}
	}
}

// P10.3: a sum of two equal points, and one of which the first is the point at
// infinity.
func TestVerifySums(t *testing.T) {
	for _, m := range models {
		for _, key := range m.edgeKeys() {
			k := m.key(36)
			r := m.reduce(m.fold(k).x)
			for _, z := range []*big.Int{m.times(r, key), new(big.Int)} {
				s := m.over(new(big.Int).Add(z, m.times(r, key)), k)
				verifies(t, true, m.c, m.fold(key).point(), m.bytes(z), m.bytes(r, s), key)
				verifies(t, false, m.c, m.fold(key).point(), m.bytes(plus(z, 1)), m.bytes(r, s), key)
			}
		}
	}
}
