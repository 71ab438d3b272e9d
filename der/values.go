package der

import (
	"bailey/api"
	"bailey/limb"
)

const (
	// maxArc is the greatest arc.
	maxArc = 1 << 28
	// firstArcs is how many numbers each of the first arcs 0 and 1 has.
	firstArcs = 40
)

// Int returns the node of a number. It takes the number's bytes from its limbs,
// as limb.Bytes gives no more than so many.
func Int(a api.Nat) api.Node {
	x := append(limb.Norm(a), 0)
	b := make([]byte, limb.Bits(a)/8+1)
	for i := range b {
		digit := len(b) - 1 - i
		b[i] = byte(x[digit/8] >> (digit % 8 * 8))
	}
	return api.Node{Tag: api.TagInt, Bytes: b}
}

// Nat returns the number of a node, or false if it is not a valid one of a
// number.
func Nat(n api.Node) (api.Nat, bool) {
	if n.Tag != api.TagInt || !May(n) {
		return nil, false
	}
	return limb.FromBytes(n.Bytes), true
}

// OID returns the node of an object identifier, or false if the arcs are not
// those of one.
func OID(arcs ...int) (api.Node, bool) {
	if !areArcs(arcs) {
		return api.Node{}, false
	}
	b := appendNumber(nil, firstArcs*arcs[0]+arcs[1])
	for _, arc := range arcs[2:] {
		b = appendNumber(b, arc)
	}
	return api.Node{Tag: api.TagOID, Bytes: b}, true
}

// Arcs returns the arcs of a node, or false if OID does not return it.
func Arcs(n api.Node) ([]int, bool) {
	if n.Tag != api.TagOID || !May(n) {
		return nil, false
	}
	var arcs []int
	x := 0
	for _, b := range n.Bytes {
		x = x<<7 | int(b&127)
		switch {
		case x > 2*firstArcs+maxArc: // a number has no end of bytes
			return nil, false
		case b >= 128:
			continue
		case arcs == nil:
			first := min(x/firstArcs, 2)
			arcs = append(arcs, first, x-firstArcs*first)
		default:
			arcs = append(arcs, x)
		}
		x = 0
	}
	if !areArcs(arcs) {
		return nil, false
	}
	return arcs, true
}

// areArcs reports whether arcs are those of an object identifier.
func areArcs(arcs []int) bool {
	if len(arcs) < 2 || arcs[0] > 2 || arcs[0] < 2 && arcs[1] >= firstArcs {
		return false
	}
	for _, arc := range arcs {
		if arc < 0 || arc > maxArc {
			return false
		}
	}
	return true
}

// appendNumber appends a number from 0 to 80 + 2^28 in base 128.
func appendNumber(out []byte, x int) []byte {
	for shift := 28; shift > 0; shift -= 7 {
		if x>>shift > 0 {
			out = append(out, byte(x>>shift)|128)
		}
	}
	return append(out, byte(x&127))
}
