package limb

import (
	"bailey/api"
)

// limbBytes is the number of bytes of a limb.
const limbBytes = limbBits / 8

// FromBytes is OS2IP of RFC 8017.
func FromBytes(b []byte) api.Nat {
	z := make(api.Nat, (len(b)+limbBytes-1)/limbBytes)
	for i, digit := range b {
		limb, shift := place(len(b) - 1 - i)
		z[limb] |= uint64(digit) << shift
	}
	return trim(z)
}

// Bytes is I2OSP of RFC 8017. It returns false if a does not fit into n bytes
// or n is out of range.
func Bytes(a api.Nat, n int) ([]byte, bool) {
	if n < 0 || n > api.MaxOut || Bits(a) > 8*n {
		return nil, false
	}
	x := trim(a)
	out := make([]byte, n)
	for i := range out {
		if limb, shift := place(n - 1 - i); limb < len(x) {
			out[i] = byte(x[limb] >> shift)
		}
	}
	return out, true
}

// place tells where the digit with the value 256^i lies: in which limb, and
// how many bits above its lowest.
func place(i int) (limb, shift int) {
	return i / limbBytes, i % limbBytes * 8
}
