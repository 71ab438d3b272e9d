package aescore

import "slices"

// element is an element of GF(2^128): the highest bit of high is the
// coefficient of the lowest power, the lowest bit of low that of the highest.
type element struct {
	high, low uint64
}

// toElement returns the element of a block, of which missing bytes are 0.
func toElement(b []byte) element {
	var block [size]byte
	copy(block[:], b)
	return element{word(block[:8]), word(block[8:])}
}

// word returns the number that 8 bytes are, the highest first.
func word(b []byte) (w uint64) {
	for _, x := range b {
		w = w<<8 | uint64(x)
	}
	return w
}

// bytes returns the block of an element.
func (e element) bytes() []byte {
	out := make([]byte, size)
	for i := range 8 {
		out[i] = byte(e.high >> (56 - 8*i))
		out[8+i] = byte(e.low >> (56 - 8*i))
	}
	return out
}

// plus returns the sum of two elements.
func (e element) plus(f element) element {
	return element{e.high ^ f.high, e.low ^ f.low}
}

// raise returns the product of e and x: each power becomes the next one, and
// x^128, where it comes up, is 1 + x + x^2 + x^7, that is, the byte e1.
func (e element) raise() element {
	return element{e.high>>1 ^ (e.low&1)*0xe1<<56, e.high<<63 | e.low>>1}
}

// times returns the product of two elements (SP 800-38D, 6.3).
func (e element) times(f element) element {
	var z element
	for _, w := range [...]uint64{e.high, e.low} {
		for i := range 64 {
			if w<<i>>63 == 1 {
				z = z.plus(f)
			}
			f = f.raise()
		}
	}
	return z
}

// Times returns the product of x and y, or nil if one of them is not a block.
func Times(x, y []byte) []byte {
	if len(x) != size || len(y) != size {
		return nil
	}
	return toElement(x).times(toElement(y)).bytes()
}

// GHASH returns the hash of b for the key h, or nil if h is not a block.
func GHASH(h, b []byte) []byte {
	if len(h) != size {
		return nil
	}
	key := toElement(h)
	var y element
	for block := range slices.Chunk(b, size) {
		y = y.plus(toElement(block)).times(key)
	}
	return y.bytes()
}
