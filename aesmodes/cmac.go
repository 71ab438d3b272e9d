package aesmodes

import (
	"slices"

	"bailey/aescore"
)

// CMAC returns the CMAC of b (SP 800-38B), or nil if the key has a wrong
// length.
func CMAC(key, b []byte) []byte {
	cipher := aescore.New(key)
	if cipher == nil {
		return nil
	}
	whole := max(0, len(b)-1) / size * size // bytes of the blocks ahead of the last
	mac := make([]byte, size)
	for block := range slices.Chunk(b[:whole], size) {
		mac = cipher.Encrypt(xor(mac, block))
	}
	return cipher.Encrypt(xor(mac, lastBlock(cipher, b[whole:])))
}

// lastBlock returns the last block of what is authenticated, of which rest is
// left: with the one subkey if it is complete, filled up and with the other one
// if it is not.
func lastBlock(cipher *aescore.Cipher, rest []byte) []byte {
	key := double(cipher.Encrypt(make([]byte, size)))
	if len(rest) == size {
		return xor(rest, key)
	}
	filled := make([]byte, size)
	filled[copy(filled, rest)] = 0x80
	return xor(filled, double(key))
}

// double returns the product of a block and x in the field of CMAC, where the
// most significant bit of the first byte is the coefficient of the highest
// power: x^128, where it comes up, is x^7 + x^2 + x + 1, that is, 87.
func double(b []byte) []byte {
	out := make([]byte, size)
	carry := byte(0)
	for i, x := range slices.Backward(b) {
		out[i] = x<<1 | carry
		carry = x >> 7
	}
	out[size-1] ^= carry * 0x87
	return out
}
