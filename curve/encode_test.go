package curve_test

import (
	"bytes"
	"crypto/elliptic"
	"math/big"
	"slices"
	"testing"

	"bailey/api"
	"bailey/curve"
)

// shorts are points with zeros ahead of x or of y.
func (m model) shorts() []spot {
	list := []spot{*m.smallY}
	for x := new(big.Int); len(list) < 6; x = plus(x, 1) {
		list = append(list, m.at(x)...)
	}
	bits, gotX, gotY := 8*(m.size-1), 0, 0
	for s := m.base(); gotX < 2 || gotY < 2; s.x, s.y = m.other.Add(s.x, s.y, m.Gx, m.Gy) {
		if s.x.BitLen() <= bits {
			gotX++
			list = append(list, s)
		}
		if s.y.BitLen() <= bits {
			gotY++
			list = append(list, s)
		}
		if s.x.Cmp(m.Gx) == 0 {
			s.x, s.y = m.other.Double(m.Gx, m.Gy)
		}
	}
	return list
}

// P9.3: Encode and Decode of points, with zeros ahead of a coordinate too, and
// of the point at infinity.
func TestEncode(t *testing.T) {
	for _, m := range models {
		for _, s := range append(m.spots(), m.shorts()...) {
			want := m.encode(s)
			if s.x != nil && !bytes.Equal(want, elliptic.Marshal(m.other, s.x, s.y)) {
				t.Fatalf("%s: %v is no encoding for this test", m.Name, want)
			}
			for _, p := range s.ways() {
				b, ok := curve.Encode(m.c, p)
				sameBytes(t, b, ok, want, "Encode", m.Name, p)
			}
			got, ok := curve.Decode(m.c, want)
			yes(t, got, ok, s, "Decode", m.Name, want)
		}
	}
}

// P9.3: the example of Encode, and the encoding of the base point that SEC 2
// prints.
func TestEncodeExamples(t *testing.T) {
	k := fromHex("222222222222222222222222222222222222222222222222222222222222229b")
	p, _ := curve.Mul(api.P256, fromBig(k), curve.Base(api.P256))
	b, ok := curve.Encode(api.P256, p)
	if !ok || len(b) != 65 {
		t.Fatalf("Encode: %x, %v", b, ok)
	}
	sameBytes(t, b[:8], ok, toBytes(t, "0433a696a5a836c2"), "Encode")

	want := toBytes(t, "04 6B17D1F2 E12C4247 F8BCE6E5 63A440F2 77037D81 2DEB33A0 F4A13945 D898C296 4FE342E2 FE1A7F9B 8EE7EB4A 7C0F9E16 2BCE3357 6B315ECE CBB64068 37BF51F5")
	b, ok = curve.Encode(api.P256, curve.Base(api.P256))
	sameBytes(t, b, ok, want, "Encode")
}

// P9.3: Encode of points that are off the curve.
func TestEncodeOff(t *testing.T) {
	for _, m := range models {
		for _, off := range m.offs() {
			b, ok := curve.Encode(m.c, off)
			noBytes(t, b, ok, "Encode", m.Name, off)
		}
	}
}

// P9.3: Decode of 00, 04, nil, the example, and of other short strings.
func TestDecodeShort(t *testing.T) {
	for _, m := range models {
		got, ok := curve.Decode(m.c, []byte{0})
		yes(t, got, ok, nowhere, "Decode", m.Name, "00")
		for first := range 256 {
			if first != 0 {
				got, ok := curve.Decode(m.c, []byte{byte(first)})
				no(t, got, ok, "Decode", m.Name, first)
			}
			for _, second := range []byte{0, 1, 4, 255} {
				got, ok := curve.Decode(m.c, []byte{byte(first), second})
				no(t, got, ok, "Decode", m.Name, first, second)
			}
		}
		for _, b := range [][]byte{nil, {}, {4, 1}} {
			got, ok := curve.Decode(m.c, b)
			no(t, got, ok, "Decode", m.Name, b)
		}
	}
}

// P9.3: Decode of bytes of every other length: too short and too long by one,
// with zeros ahead, and the encodings of the other curve.
func TestDecodeLengths(t *testing.T) {
	for _, m := range models {
		for _, s := range append(m.shorts(), m.base()) {
			whole := m.encode(s)
			for n := range whole {
				got, ok := curve.Decode(m.c, whole[:n])
				no(t, got, ok, "Decode", m.Name, whole[:n])
			}
			for _, b := range [][]byte{
				append(slices.Clone(whole), 0), append(slices.Clone(whole), 4), append(slices.Clone(whole), whole...),
				append([]byte{0}, whole...), append([]byte{4}, whole...), slices.Insert(slices.Clone(whole), 1, 0),
				slices.Insert(slices.Clone(whole), 1, 0, 0), slices.Insert(slices.Clone(whole), 1+m.size, 0), whole[1:],
				slices.Concat(whole[:1], s.x.Bytes(), s.y.Bytes()), slices.Concat(whole, make([]byte, 1<<16)),
			} {
				if bytes.Equal(b, whole) {
					continue
				}
				got, ok := curve.Decode(m.c, b)
				no(t, got, ok, "Decode", m.Name, b)
			}
		}
		for _, other := range models {
			if other.c != m.c {
				b := other.encode(other.base())
				got, ok := curve.Decode(m.c, b)
				no(t, got, ok, "Decode", m.Name, b)
			}
		}
	}
}

// P9.3: Decode of other first bytes: compressed forms, the hybrid forms of
// other standards, and the point at infinity with coordinates.
func TestDecodeForms(t *testing.T) {
	for _, m := range models {
		for _, s := range m.spots()[1:] {
			whole := m.encode(s)
			for first := range 256 {
				if first == 4 {
					continue
				}
				b := slices.Clone(whole)
				b[0] = byte(first)
				got, ok := curve.Decode(m.c, b)
				no(t, got, ok, "Decode", m.Name, b)
				got, ok = curve.Decode(m.c, b[:1+m.size])
				no(t, got, ok, "Decode", m.Name, b[:1+m.size])
			}
			b := elliptic.MarshalCompressed(m.other, s.x, s.y)
			got, ok := curve.Decode(m.c, b)
			no(t, got, ok, "Decode", m.Name, b)
		}
		got, ok := curve.Decode(m.c, make([]byte, 1+2*m.size))
		no(t, got, ok, "Decode of zeros", m.Name)
	}
}

// P9.3: Decode of points that are off the curve, of coordinates that are not
// below the prime among them.
func TestDecodeOff(t *testing.T) {
	for _, m := range models {
		high, tried := 0, 0
		for _, off := range m.offs() {
			s := spot{toBig(off.X), toBig(off.Y)}
			if s.x.BitLen() > 8*m.size || s.y.BitLen() > 8*m.size {
				continue
			}
			if tried++; s.x.Cmp(m.P) >= 0 || s.y.Cmp(m.P) >= 0 {
				high++
			}
			got, ok := curve.Decode(m.c, m.encode(s))
			no(t, got, ok, "Decode", m.Name, s)
		}
		if tried < 20 || high < 5 {
			t.Fatalf("%s: %d points, %d of them too high", m.Name, tried, high)
		}
		for _, s := range []spot{
			{m.P, m.P}, {plus(m.P, 1), m.Gy}, {m.Gx, power2(uint(8*m.size), -1)}, {power2(uint(8*m.size), -1), m.Gy},
			{m.smallY.x, plus(m.P, 1)}, {m.smallY.x, big.NewInt(0)}, {big.NewInt(0), big.NewInt(0)},
		} {
			got, ok := curve.Decode(m.c, m.encode(s))
			no(t, got, ok, "Decode", m.Name, s)
		}
	}
}

// P9.3: whatever Decode takes is what Encode makes of the point: each byte of
// an encoding counts.
func TestDecodeBits(t *testing.T) {
	for _, m := range models {
		whole := m.encode(m.base())
		for i := range whole {
			for bit := range 8 {
				b := slices.Clone(whole)
				b[i] ^= 1 << bit
				got, ok := curve.Decode(m.c, b)
				no(t, got, ok, "Decode", m.Name, b)
			}
		}
	}
}
