package aesmodes

import (
	"bytes"
	"slices"

	"bailey/aescore"
	"bailey/api"
)

// half is the length of what the key wrap moves at once, rounds is how often it
// goes over all of that, and longest is the length of the longest wrap.
const (
	half    = size / 2
	rounds  = 6
	longest = 65536
)

// start returns the initial value of the key wrap.
func start() []byte {
	return bytes.Repeat([]byte{0xa6}, half)
}

// Wrap returns the key wrap of b (RFC 3394).
func Wrap(key, b []byte) ([]byte, api.RV) {
	cipher := aescore.New(key)
	if cipher == nil {
		return nil, api.KeySizeRange
	}
	if len(b) < 2*half || len(b) > longest-half || len(b)%half != 0 {
		return nil, api.DataLenRange
	}
	out := slices.Concat(start(), b)
	step := 0
	for range rounds {
		for i := half; i < len(out); i += half {
			step++
			block := cipher.Encrypt(slices.Concat(out[:half], out[i:i+half]))
			copy(out, xor(block[:half], number(step)))
			copy(out[i:], block[half:])
		}
	}
	return out, api.OK
}

// Unwrap returns the string of which b is the key wrap: it takes the steps of
// Wrap back, from the last one on.
func Unwrap(key, b []byte) ([]byte, api.RV) {
	cipher := aescore.New(key)
	if cipher == nil {
		return nil, api.KeySizeRange
	}
	if len(b) < 3*half || len(b) > longest || len(b)%half != 0 {
		return nil, api.WrappedLenRange
	}
	out := slices.Clone(b)
	step := rounds * (len(b)/half - 1)
	for range rounds {
		for i := len(out) - half; i > 0; i -= half {
			block := cipher.Decrypt(slices.Concat(xor(out[:half], number(step)), out[i:i+half]))
			copy(out, block[:half])
			copy(out[i:], block[half:])
			step--
		}
	}
	if !bytes.Equal(out[:half], start()) {
		return nil, api.WrappedInvalid
	}
	return slices.Clone(out[half:]), api.OK
}
