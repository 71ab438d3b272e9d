package pad

import (
	"bytes"
	"slices"

	"bailey/api"
	"bailey/hashes"
)

// trailer is the last byte of every PSS encoding, and maxBits the length of the
// longest one in bits.
const (
	trailer = 0xbc
	maxBits = 65536
)

// encodable reports whether a hash of that kind has a PSS encoding of so many
// bits, if they are enough for it and its salt.
func encodable(kind, bits int, hash []byte) bool {
	return isHash(kind, hash) && bits >= 1 && bits <= maxBits
}

// bytesOf returns in how many bytes so many bits go.
func bytesOf(bits int) int {
	return (bits + 7) / 8
}

// EncPSS returns the PSS encoding, of so many bits, of a hash with a salt.
func EncPSS(kind, bits int, hash, salt []byte) ([]byte, api.RV) {
	if !encodable(kind, bits, hash) {
		return nil, api.ArgumentsBad
	}
	zeros := bytesOf(bits) - len(hash) - len(salt) - 2
	if zeros < 0 {
		return nil, api.DataLenRange
	}
	salted := hashes.Of(kind, make([]byte, 8), hash, salt)
	hidden := masked(kind, slices.Concat(make([]byte, zeros), []byte{1}, salt), salted)
	hidden[0] &= 0xff >> (8*bytesOf(bits) - bits)
	return slices.Concat(hidden, salted, []byte{trailer}), api.OK
}

// VerPSS reports whether em is a PSS encoding, of so many bits, of the hash with
// some salt of so many bytes. It is one if EncPSS makes the same of the salt
// that is in it.
func VerPSS(kind, bits int, hash, em []byte, salt int) bool {
	if !encodable(kind, bits, hash) || len(em) != bytesOf(bits) {
		return false
	}
	// A 01 is always ahead of the salt.
	end := len(em) - len(hash) - 1
	if salt < 0 || salt >= end {
		return false
	}
	block := masked(kind, em[:end], em[end:len(em)-1])
	again, rv := EncPSS(kind, bits, hash, block[end-salt:])
	return rv == api.OK && bytes.Equal(again, em)
}
