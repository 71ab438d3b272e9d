package pad_test

import (
	"bytes"
	"crypto/rsa"
	"math"
	"slices"
	"testing"

	"bailey/api"
	"bailey/pad"
)

// verifies fails the test if VerPSS is not want.
func verifies(t *testing.T, want bool, kind, bits int, hash, em []byte, salt int, what ...any) {
	t.Helper()
	if pad.VerPSS(kind, bits, hash, em, salt) != want {
		t.Fatalf("%v: VerPSS of the kind %d, %d bits, a salt of %d and %.64x is not %v", what, kind, bits, salt, em, want)
	}
}

// P8.4: the intermediate values that RSA Laboratories published for RSASSA-PSS.
func TestPSSVector(t *testing.T) {
	hash := fromHex(t, "37b66ae0445843353d47ecb0b4fd14c110e62d6a")
	salt := fromHex(t, "e3b5d5d002c1bce50c2b65ef88a188d83bce7e61")
	em := fromHex(t, "66e4672e836ad121ba244bed6576b867d9a447c28a6e66a5b87dee7fbc7e65af5057f86fae8984d9ba7f969ad6fe02a4d75f7445fefdd85b"+
		"6d3a477c28d24ba1e3756f792dd1dce8ca94440ecb5279ecd3183a311fc896da1cb39311af37ea4a75e24bdbfd5c1da0de7cecdf1a896f9d8bc816d97cd7a2c43bad546fbe8cfebc")
	got, rv := pad.EncPSS(api.SHA1, 8*len(em)-1, hash, salt)
	gives(t, got, rv, em)
	verifies(t, true, api.SHA1, 8*len(em)-1, hash, em, 20)
	verifies(t, false, api.SHA1, 8*len(em)-1, hash, em, 19, "the example")
	verifies(t, false, api.SHA1, 8*len(em)-1, hash, em, 21)
}

// P8.4: EncPSS with bits about a byte's end and salts of every length that fits,
// VerPSS of what it returns, and a salt that is a byte longer.
func TestPSS(t *testing.T) {
	all := some(60, 100)
	for _, k := range kinds {
		for bits := 8*(k.size+2) - 18; bits < 8*(k.size+2)+90; bits++ {
			n := (bits + 7) / 8
			hash := k.hash(all[:bits%50])
			for size := 0; size <= n-k.size-2; size++ {
				want := k.pss(bits, k.pssBlock(bits, all[:size]), k.salted(hash, all[:size]), 0xbc)
				got, rv := pad.EncPSS(k.kind, bits, hash, all[:size])
				gives(t, got, rv, want, k.kind, bits, size)
				for salt := -2; salt < n+2; salt++ {
					verifies(t, salt == size, k.kind, bits, hash, want, salt)
				}
			}
			for _, size := range []int{max(0, n-k.size-1), max(0, n-k.size), 100} {
				got, rv := pad.EncPSS(k.kind, bits, hash, all[:size])
				refuses(t, got, rv, api.DataLenRange, k.kind, bits, size)
			}
		}
	}
	got, rv := pad.EncPSS(api.SHA1, 328, all[:20], all[:20])
	refuses(t, got, rv, api.DataLenRange, "the example")
	got, rv = pad.EncPSS(api.SHA1, 329, all[:20], all[:20])
	if rv != api.OK || len(got) != 42 {
		t.Errorf("a bit more than the example: %x, %#x", got, rv)
	}
}

// P8.4: the greatest numbers of bits and the longest salts.
func TestPSSLong(t *testing.T) {
	long := some(61, 70000)
	for _, k := range kinds {
		hash := k.hash(nil)
		for _, bits := range []int{65528, 65529, 65535, 65536} {
			most := (bits+7)/8 - k.size - 2
			for _, size := range []int{0, 20, most - 1, most} {
				want := k.pss(bits, k.pssBlock(bits, long[:size]), k.salted(hash, long[:size]), 0xbc)
				got, rv := pad.EncPSS(k.kind, bits, hash, long[:size])
				gives(t, got, rv, want, k.kind, bits, size)
				verifies(t, true, k.kind, bits, hash, want, size)
				verifies(t, false, k.kind, bits, hash, want, size+1)
				verifies(t, false, k.kind, bits, hash, want, size-1)
			}
			for _, size := range []int{most + 1, most + 2, (bits + 7) / 8, 65536, 70000} {
				got, rv := pad.EncPSS(k.kind, bits, hash, long[:size])
				refuses(t, got, rv, api.DataLenRange, k.kind, bits, size)
			}
		}
		// Of 65,537 bits, which is too many, but right otherwise.
		em := k.pss(65537, k.pssBlock(65537, long[:20]), k.salted(hash, long[:20]), 0xbc)
		verifies(t, false, k.kind, 65537, hash, em, 20)
		em = k.pss(65544, k.pssBlock(65544, long[:20]), k.salted(hash, long[:20]), 0xbc)
		verifies(t, false, k.kind, 65544, hash, em, 20)
	}
}

// P8.4: numbers of bits out of range, hashes of a wrong length and kinds that
// are not valid, which come ahead of salts that are too long.
func TestPSSArguments(t *testing.T) {
	all := some(62, 300)
	wrong := func(kind, bits int, hash []byte) {
		t.Helper()
		for _, salt := range [][]byte{nil, {}, all[:20], all, make([]byte, 70000)} {
			got, rv := pad.EncPSS(kind, bits, hash, salt)
			refuses(t, got, rv, api.ArgumentsBad, kind, bits, len(hash), len(salt))
		}
		for _, em := range [][]byte{nil, {0xbc}, all, append(make([]byte, 127), 0xbc), make([]byte, 1<<17)} {
			for _, salt := range []int{math.MinInt, -1, 0, 20, 300, math.MaxInt} {
				verifies(t, false, kind, bits, hash, em, salt)
			}
		}
	}
	for _, k := range kinds {
		for _, bits := range slices.Concat([]int{-7, -8}, tooFew[:len(tooFew)-1], tooMany) {
			wrong(k.kind, bits, all[:k.size])
		}
		for _, bits := range []int{math.MinInt, 0, 1, 8, 1024, 65536, 65537, math.MaxInt} {
			for _, n := range []int{0, 1, 20, 28, 32, 48, 64, k.size - 1, k.size + 1, 2 * k.size, 300} {
				if n != k.size {
					wrong(k.kind, bits, all[:n])
				}
			}
		}
	}
	for _, kind := range wrongKinds {
		for _, bits := range []int{math.MinInt, 0, 1, 8, 1024, 65536, 65537, math.MaxInt} {
			for _, n := range []int{0, 1, 20, 28, 32, 48, 64} {
				wrong(kind, bits, all[:n])
			}
		}
	}
	for bits := 1; bits <= 8*22; bits++ {
		for _, salt := range [][]byte{nil, all[:1], all} {
			if (bits+7)/8 < 22+len(salt) {
				got, rv := pad.EncPSS(api.SHA1, bits, all[:20], salt)
				refuses(t, got, rv, api.DataLenRange, bits, len(salt))
			}
		}
	}
}

// P8.4: salts that are negative or too long for VerPSS, among them those with
// which a sum would overflow, and an em that is too short or too long.
func TestVerPSSRange(t *testing.T) {
	for _, k := range kinds {
		hash := k.hash([]byte("text"))
		for _, size := range []int{0, 1, 20} {
			for bits := 8*(k.size+size+4) - 8; bits <= 8*(k.size+size+4); bits++ {
				em := k.pss(bits, k.pssBlock(bits, some(63, size)), k.salted(hash, some(63, size)), 0xbc)
				n := len(em)
				verifies(t, true, k.kind, bits, hash, em, size)
				for _, salt := range []int{math.MinInt, math.MinInt + n, math.MinInt + size, -n, -k.size - 2, -1, n - k.size - 1, n - k.size, n - 1, n, n + 1, 65536,
					math.MaxInt - n, math.MaxInt - k.size - 2, math.MaxInt - k.size - 1, math.MaxInt - k.size, math.MaxInt - 1, math.MaxInt, size + 1<<32, size + 256} {
					verifies(t, false, k.kind, bits, hash, em, salt)
				}
				for i := range em {
					verifies(t, false, k.kind, bits, hash, em[:i], size, "cut to", i)
					verifies(t, false, k.kind, bits, hash, em[i+1:], size, "cut at", i)
				}
				verifies(t, false, k.kind, bits, hash, append([]byte{0}, em...), size, "lengthened")
				verifies(t, false, k.kind, bits, hash, append(bytes.Clone(em), 0xbc), size, "lengthened")
				verifies(t, false, k.kind, bits, hash, append(bytes.Clone(em), em...), size, "twice")
				for _, long := range []int{65536, 65537, 1 << 17} {
					verifies(t, false, k.kind, bits, hash, append(make([]byte, long), em...), size, "much longer")
				}
			}
		}
		for n := range k.size + 2 {
			verifies(t, false, k.kind, max(1, 8*n), hash, append(make([]byte, max(0, n-1)), 0xbc), 0, n, "short")
			verifies(t, false, k.kind, max(1, 8*n), hash, nil, 0, n, "nil")
		}
	}
}

// P8.4: each condition of VerPSS, broken while all others hold.
func TestVerPSSConditions(t *testing.T) {
	salt := some(64, 10)
	for _, k := range kinds {
		for bits := 8*(k.size+20) - 7; bits <= 8*(k.size+20); bits++ {
			hash := k.hash([]byte("text"))
			block, salted := k.pssBlock(bits, salt), k.salted(hash, salt)
			em := k.pss(bits, block, salted, 0xbc)
			verifies(t, true, k.kind, bits, hash, em, 10)
			for x := range 256 {
				verifies(t, x == 0xbc, k.kind, bits, hash, k.pss(bits, block, salted, byte(x)), 10, "the trailer", x)
			}
			for i := range unused(bits) {
				other := bytes.Clone(em)
				other[0] |= 0x80 >> i
				verifies(t, false, k.kind, bits, hash, other, 10, "the unused bit", i)
			}
			for i := range block {
				for _, x := range []byte{1, 2, 0x80, 0xff} {
					other := bytes.Clone(block)
					other[i] ^= x
					// The unused bits of a block tell nothing.
					same := i == 0 && x<<unused(bits) == 0
					verifies(t, same, k.kind, bits, hash, k.pss(bits, other, salted, 0xbc), 10, "the block", i, x)
				}
			}
			for i := range salted {
				other := bytes.Clone(salted)
				other[i] ^= 4
				verifies(t, false, k.kind, bits, hash, k.pss(bits, block, other, 0xbc), 10, "the salted hash", i)
				other = bytes.Clone(hash)
				other[i] ^= 4
				verifies(t, false, k.kind, bits, other, em, 10, "the hash", i)
			}
			verifies(t, false, k.kind, bits, hash, k.pss(bits, block, k.hash(hash, salt), 0xbc), 10, "without the zeros")
			for i := range em {
				for bit := range 8 {
					other := bytes.Clone(em)
					other[i] ^= 1 << bit
					verifies(t, false, k.kind, bits, hash, other, 10, "spoilt at", i, bit)
				}
			}
		}
	}
}

// P8.4: the 01 at another place than the salt's length tells, though all else
// holds for a salt of that length.
func TestVerPSSPlace(t *testing.T) {
	for _, k := range kinds {
		bits := 8*(k.size+30) - 1
		hash := k.hash([]byte("text"))
		for size := range 28 {
			salt := some(65, size)
			block := k.pssBlock(bits, salt)
			for place := range 28 - size {
				other := bytes.Clone(block)
				other[len(other)-size-1] = 0
				other[place] = 1
				em := k.pss(bits, other, k.salted(hash, salt), 0xbc)
				verifies(t, false, k.kind, bits, hash, em, size, place)
			}
			if size > 0 {
				twice := bytes.Clone(block)
				twice[len(twice)-size] = 1 // a salt may begin with 01
				long := twice[len(twice)-size:]
				em := k.pss(bits, twice, k.salted(hash, long), 0xbc)
				verifies(t, true, k.kind, bits, hash, em, size)
				verifies(t, false, k.kind, bits, hash, em, size-1)
				em = k.pss(bits, twice, k.salted(hash, long[1:]), 0xbc)
				verifies(t, false, k.kind, bits, hash, em, size)
				verifies(t, false, k.kind, bits, hash, em, size-1)
			}
			none := make([]byte, len(block))
			em := k.pss(bits, none, k.salted(hash, make([]byte, size)), 0xbc)
			verifies(t, false, k.kind, bits, hash, em, size, "no 01")
		}
	}
}

// P8.4: VerPSS with other bits than those of the encoding: it is one of fewer
// bits too if those that are too many happen to be zero.
func TestVerPSSBits(t *testing.T) {
	for seed := range int64(40) {
		for _, k := range kinds {
			hash, salt := some(seed, k.size), some(seed, 5)
			for bits := 8*(k.size+10) - 7; bits <= 8*(k.size+10); bits++ {
				em := k.pss(bits, k.pssBlock(bits, salt), k.salted(hash, salt), 0xbc)
				for other := 8*(k.size+10) - 16; other <= 8*(k.size+10)+9; other++ {
					want := (other+7)/8 == len(em) && bytes.Equal(em, k.pss(other, k.pssBlock(other, salt), k.salted(hash, salt), 0xbc))
					verifies(t, want, k.kind, other, hash, em, 5, bits)
				}
				for _, other := range kinds {
					if other.kind != k.kind {
						verifies(t, false, other.kind, bits, hash, em, 5)
						verifies(t, false, other.kind, bits, some(seed, other.size), em, 5)
					}
				}
			}
		}
	}
}

// P8.4: the signatures of another program, and what it says to those made of
// EncPSS, for moduli that end about a byte's end.
func TestPSSSignatures(t *testing.T) {
	for bits := 1160; bits < 1169; bits++ {
		key := otherKey(t, bits)
		size, n := (bits+7)/8, (bits-1+7)/8
		for _, k := range kinds {
			hash := k.hash([]byte("a message"))
			for _, salt := range []int{1, 15} {
				signature, err := rsa.SignPSS(reader(66), key, k.name, hash, &rsa.PSSOptions{SaltLength: salt})
				if err != nil {
					t.Fatal(err)
				}
				em := public(key, signature, n)
				verifies(t, true, k.kind, bits-1, hash, em, salt)
				verifies(t, false, k.kind, bits-1, hash, em, salt+1)
				em, rv := pad.EncPSS(k.kind, bits-1, hash, some(67, salt))
				if rv != api.OK {
					t.Fatal(rv)
				}
				if err := rsa.VerifyPSS(&key.PublicKey, k.name, hash, private(key, em, size), &rsa.PSSOptions{SaltLength: salt}); err != nil {
					t.Errorf("%d bits, %d: %v", bits, k.kind, err)
				}
			}
		}
	}
}
