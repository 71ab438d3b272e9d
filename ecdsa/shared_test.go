package ecdsa_test

import (
	"bytes"
	"crypto/ecdh"
	"crypto/rand"
	"math/big"
	"slices"
	"testing"

	"bailey/api"
	"bailey/drbg"
	"bailey/ecdsa"
)

// P10.4: values of RFC 5903 and of the test vectors of NIST.
func TestSharedPublished(t *testing.T) {
	for _, v := range []struct {
		m    model
		key  string
		x, y string
		want string
	}{
		{
			models[0], "7d7dc5f71eb29ddaf80d6214632eeae03d9058af1fb6d22ed80badb62bc1a534",
			"700c48f77f56584c5cc632ca65640db91b6bacce3a4df6b42ce7cc838833d287",
			"db71e509e3fd9b060ddb20ba5c51dcc5948d46fbf640dfe0441782cab85fa4ac",
			"46fc62106420ff012e54a434fbdd2d25ccc5852060561e68040dd7778997bd7b",
		},
	} {
		got, rv := ecdsa.Shared(v.m.c, fromBig(fromHex(v.key)), spot{fromHex(v.x), fromHex(v.y)}.point())
		gives(t, got, rv, toBytes(v.want), v)
	}
	for _, v := range []struct {
		m         model
		one, two  string
		wantShare string
	}{
		{
			models[0], "c88f01f510d9ac3f70a292daa2316de544e9aab8afe84049c62a9c57862d1433",
			"c6ef9c5d78ae012a011164acb397ce2088685d8f06bf9be0b283ab46476bee53",
			"d6840f6b42f6edafd13116e0e12565202fef8e9ece7dce03812464d04b9442de",
		},
		{
			models[1], "099f3c7034d4a2c699884d73a375a67f7624ef7c6b3c0f160647b67414dce655e35b538041e649ee3faef896783ab194",
			"41cb0779b4bdb85d47846725fbec3c9430fab46cc8dc5060855cc9bda0aa2942e0308312916b8ed2960e4bd55a7448fc",
			"11187331c279962d93d604243fd592cb9d0a926f422e47187521287e7156c5c4d603135569b9e9d09cf5d4a270f59746",
		},
	} {
		one, two := fromHex(v.one), fromHex(v.two)
		got, rv := ecdsa.Shared(v.m.c, fromBig(one), v.m.fold(two).point())
		gives(t, got, rv, toBytes(v.wantShare), v)
		got, rv = ecdsa.Shared(v.m.c, fromBig(two), v.m.fold(one).point())
		gives(t, got, rv, toBytes(v.wantShare), v)
	}
}

// P10.4: another implementation gets the same secrets.
func TestSharedAnother(t *testing.T) {
	for i, curve := range []ecdh.Curve{ecdh.P256(), ecdh.P384()} {
		m := models[i]
		for range 20 {
			mine, err := curve.GenerateKey(rand.Reader)
			if err != nil {
				t.Fatal(err)
			}
			theirs, err := curve.GenerateKey(rand.Reader)
			if err != nil {
				t.Fatal(err)
			}
			want, err := mine.ECDH(theirs.PublicKey())
			if err != nil {
				t.Fatal(err)
			}
			key, pub := new(big.Int).SetBytes(mine.Bytes()), theirs.PublicKey().Bytes()[1:]
			point := spot{new(big.Int).SetBytes(pub[:m.size]), new(big.Int).SetBytes(pub[m.size:])}
			got, rv := ecdsa.Shared(m.c, fromBig(key), point.point())
			gives(t, got, rv, want, m.Name, key, point)
		}
	}
}

// P10.4: every sort of key with every sort of point, in every way to write
// them.
func TestShared(t *testing.T) {
	for _, m := range models {
		for i, key := range m.edgeKeys() {
			for _, fold := range []*big.Int{big.NewInt(1), plus(m.N, -1), m.key(40), key, m.minus(key)} {
				point := m.fold(fold)
				writings := []api.Point{point.point()}
				if i%4 == 0 {
					writings = point.ways()
				}
				for j, writing := range writings {
					got, rv := ecdsa.Shared(m.c, long(key)[j%3], writing)
					gives(t, got, rv, m.bytes(m.mul(key, point).x), m.Name, key, fold)
				}
			}
		}
	}
}

// P10.4: two parties get the same secret.
func TestSharedParties(t *testing.T) {
	d := drbg.New([]byte("parties"))
	for _, m := range models {
		for range 10 {
			one, pubOne, _ := ecdsa.Generate(m.c, d)
			two, pubTwo, _ := ecdsa.Generate(m.c, d)
			a, rv := ecdsa.Shared(m.c, one, pubTwo)
			b, rvB := ecdsa.Shared(m.c, two, pubOne)
			if rv != api.OK || rvB != api.OK || len(a) != m.size || !bytes.Equal(a, b) {
				t.Fatal(m.Name, a, b, rv, rvB)
			}
		}
	}
}

// P10.4: coordinates with zeros ahead, up to one that is all zeros.
func TestSharedZeros(t *testing.T) {
	for _, m := range models {
		for found, k := 0, int64(1); found < 3; k++ {
			point := m.fold(big.NewInt(k))
			if point.x.BitLen() > 8*m.size-8 {
				continue
			}
			found++
			got, rv := ecdsa.Shared(m.c, fromBig(big.NewInt(k)), spot{m.Gx, m.Gy}.point())
			gives(t, got, rv, m.bytes(point.x), m.Name, k)
		}
		for _, start := range []int64{0, 1, 200, 65536} {
			point := m.from(big.NewInt(start), 1)
			for _, key := range []*big.Int{big.NewInt(1), plus(m.N, -1)} {
				got, rv := ecdsa.Shared(m.c, fromBig(key), point.point())
				gives(t, got, rv, m.bytes(point.x), m.Name, point.x)
			}
			half := m.mul(m.over(big.NewInt(1), m.key(41)), point)
			got, rv := ecdsa.Shared(m.c, fromBig(m.key(41)), half.point())
			gives(t, got, rv, m.bytes(point.x), m.Name, point.x)
		}
	}
}

// P10.4: x-coordinates that lie above the order are not reduced.
func TestSharedAbove(t *testing.T) {
	for _, m := range models {
		for _, start := range []*big.Int{m.N, plus(m.N, 100)} {
			point := m.from(start, 1)
			got, rv := ecdsa.Shared(m.c, api.Nat{1}, point.point())
			gives(t, got, rv, m.bytes(point.x), m.Name, point.x)
		}
	}
}

// P10.4: numbers that are no private keys, and curves that are not valid, with
// good points and with bad ones: ArgumentsBad.
func TestSharedBadKey(t *testing.T) {
	for _, m := range models {
		points := slices.Concat([]api.Point{m.fold(m.key(42)).point()}, m.offs(), m.nowheres())
		for _, pub := range points {
			for _, key := range m.notKeys() {
				for _, writing := range append(long(key), nil, api.Nat{}) {
					got, rv := ecdsa.Shared(m.c, writing, pub)
					refuses(t, got, rv, api.ArgumentsBad, "Shared", m.Name, key, pub)
				}
			}
			for _, c := range wrongCurves {
				for _, key := range slices.Concat(m.edgeKeys(), m.notKeys()) {
					got, rv := ecdsa.Shared(c, fromBig(key), pub)
					refuses(t, got, rv, api.ArgumentsBad, "Shared", c, key, pub)
				}
			}
		}
	}
	// A private key of P-384 that is none of P-256, with a point of P-384.
	got, rv := ecdsa.Shared(api.P256, fromBig(power2(300, 1)), models[1].fold(big.NewInt(5)).point())
	refuses(t, got, rv, api.ArgumentsBad, "Shared of two curves")
}

// P10.4: points that are not on the curve, and the point at infinity:
// DataInvalid.
func TestSharedBadPoint(t *testing.T) {
	for _, m := range models {
		for _, pub := range append(m.offs(), m.nowheres()...) {
			for _, key := range m.edgeKeys() {
				got, rv := ecdsa.Shared(m.c, fromBig(key), pub)
				refuses(t, got, rv, api.DataInvalid, "Shared", m.Name, key, pub)
			}
		}
		good := m.fold(m.key(43)).point()
		good.Inf = true
		got, rv := ecdsa.Shared(m.c, api.Nat{1}, good)
		refuses(t, got, rv, api.DataInvalid, "a good point that is said to be at infinity")
	}
}
