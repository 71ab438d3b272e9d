package aesmodes

import "bailey/aescore"

// counter is a row of encrypted counter blocks, which mask the bytes of an
// input one after the other.
type counter struct {
	block   [size]byte // the next counter block
	width   int        // of the counter at its end, in bits
	masking [size]byte // an encrypted counter block
	left    int        // how many bytes of that, at its end, are not used yet
}

// beginCTR takes the parameter of CTR, and reports whether it is one.
func (s *Stream) beginCTR(param []byte) bool {
	if len(param) != 1+size || param[0] < 1 || param[0] > 8*size {
		return false
	}
	s.counter = counter{block: [size]byte(param[1:]), width: int(param[0])}
	return true
}

// mask returns the exclusive or of b and the next bytes of the row.
func (c *counter) mask(cipher *aescore.Cipher, b []byte) []byte {
	out := make([]byte, len(b))
	for i, x := range b {
		if c.left == 0 {
			c.masking = [size]byte(cipher.Encrypt(c.block[:]))
			c.left = size
			c.step()
		}
		out[i] = x ^ c.masking[size-c.left]
		c.left--
	}
	return out
}

// step increments the counter modulo 2^width: it turns bits from the lowest on
// until one has become 1.
func (c *counter) step() {
	for i := range c.width {
		at, bit := size-1-i/8, byte(1)<<(i%8)
		c.block[at] ^= bit
		if c.block[at]&bit != 0 {
			return
		}
	}
}
