package ecdsa_test

import (
	"bytes"
	"math/big"
	"testing"

	"bailey/ecdsa"
)

// P10.2: Number of hashes of every length: of nothing, shorter than the order,
// as long, and longer.
func TestNumber(t *testing.T) {
	for _, m := range models {
		for n := range 150 {
			for _, hash := range [][]byte{some(int64(n), n), make([]byte, n), bytes.Repeat([]byte{0xff}, n), bytes.Repeat([]byte{1}, n)} {
				same(t, ecdsa.Number(m.c, hash), m.number(hash), "Number", m.Name, hash)
			}
		}
		for _, hash := range hashes("text") {
			same(t, ecdsa.Number(m.c, hash), m.number(hash), "Number", m.Name, hash)
		}
		hash := some(7, 3_000_000)
		same(t, ecdsa.Number(m.c, hash), m.number(hash), "Number", m.Name, len(hash))
	}
}

// P10.2: Number is not reduced, zeros ahead of a hash count as its bits, and
// zeros after one that is shorter than the order do too.
func TestNumberEdges(t *testing.T) {
	for _, m := range models {
		all := bytes.Repeat([]byte{0xff}, m.size)
		whole := power2(uint(8*m.size), -1)
		for _, c := range []struct {
			hash []byte
			want *big.Int
		}{
			{nil, big.NewInt(0)},
			{[]byte{}, big.NewInt(0)},
			{[]byte{0}, big.NewInt(0)},
			{[]byte{1}, big.NewInt(1)},
			{[]byte{0x80}, big.NewInt(128)},
			{[]byte{1, 0}, big.NewInt(256)},
			{[]byte{0, 0, 3}, big.NewInt(3)},
			{all, whole},
			{append(bytes.Clone(all), 0), whole},
			{append(bytes.Clone(all), 0xff, 0xff), whole},
			{all[1:], power2(uint(8*m.size-8), -1)},
			{append([]byte{0}, all...), power2(uint(8*m.size-8), -1)},
			{append(make([]byte, m.size), all...), big.NewInt(0)},
			{append(make([]byte, m.size-1), all...), big.NewInt(255)},
			{m.bytes(m.N), m.N},
			{m.bytes(plus(m.N, 1)), plus(m.N, 1)},
			{m.bytes(plus(m.N, -1)), plus(m.N, -1)},
		} {
			same(t, ecdsa.Number(m.c, c.hash), c.want, "Number", m.Name, c.hash)
		}
	}
}

// P10.2: each bit of a hash counts, or is left out.
func TestNumberBits(t *testing.T) {
	for _, m := range models {
		for i := range 8 * (m.size + 3) {
			hash := make([]byte, m.size+3)
			hash[i/8] = 0x80 >> (i % 8)
			want := new(big.Int)
			if i < m.BitSize {
				want.Lsh(big.NewInt(1), uint(m.BitSize-1-i))
			}
			same(t, ecdsa.Number(m.c, hash), want, "Number", m.Name, i)
		}
	}
}

// P10.2: Number of a curve that is not valid is zero.
func TestNumberWrong(t *testing.T) {
	for _, c := range wrongCurves {
		for _, hash := range append(hashes("text"), nil, []byte{1}, some(1, 5000)) {
			same(t, ecdsa.Number(c, hash), new(big.Int), "Number", c, hash)
		}
	}
}
