package der

import (
	"math/bits"

	"bailey/api"
)

const (
	// maxBytes is the greatest number of bytes of an encoding.
	maxBytes = 1 << 16
	// longForm is the least length that does not fit into one byte, and what
	// is added there to the number of the bytes that say it.
	longForm = 128
)

// Write returns the encoding of n, or false if n is not valid or its encoding
// is too long.
func Write(n api.Node) ([]byte, bool) {
	if !May(n) || size(n) > maxBytes {
		return nil, false
	}
	return appendNode(make([]byte, 0, size(n)), n), true
}

// size returns the number of bytes of the encoding of a valid node.
func size(n api.Node) int {
	length := contents(n)
	return 2 + digits(length) + length
}

// contents returns the number of bytes of the contents of a valid node.
func contents(n api.Node) int {
	length := len(n.Bytes)
	for _, kid := range n.Kids {
		length += size(kid)
	}
	return length
}

// digits returns the number of bytes that follow the first one of a length.
func digits(length int) int {
	if length < longForm {
		return 0
	}
	return (bits.Len(uint(length)) + 7) / 8
}

// appendNode appends the encoding of a valid node.
func appendNode(out []byte, n api.Node) []byte {
	out = append(out, byte(n.Tag))
	out = appendLength(out, contents(n))
	out = append(out, n.Bytes...)
	for _, kid := range n.Kids {
		out = appendNode(out, kid)
	}
	return out
}

// appendLength appends the encoding of a length.
func appendLength(out []byte, length int) []byte {
	if length < longForm {
		return append(out, byte(length))
	}
	count := digits(length)
	out = append(out, longForm+byte(count))
	for i := count - 1; i >= 0; i-- {
		out = append(out, byte(length>>(8*i)))
	}
	return out
}
