package curve

import (
	"slices"

	"bailey/api"
	"bailey/limb"
)

// The first bytes of the encodings of SEC 1, 2.3.3.
const (
	nowhere      = 0 // the point at infinity: nothing follows
	uncompressed = 4 // X and Y follow
)

// Encode returns the uncompressed encoding of p, or false if c is not valid or
// p is not on the curve.
func Encode(c int, p api.Point) ([]byte, bool) {
	d, ok := domainWith(c, p)
	if !ok {
		return nil, false
	}
	if p.Inf {
		return []byte{nowhere}, true
	}
	x, _ := limb.Bytes(p.X, d.size)
	y, _ := limb.Bytes(p.Y, d.size)
	return slices.Concat([]byte{uncompressed}, x, y), true
}

// Decode returns the point whose encoding is b, or false if c is not valid or
// there is none.
func Decode(c int, b []byte) (api.Point, bool) {
	d, ok := domainOf(c)
	switch {
	case !ok || len(b) == 0:
		return infinity(), false
	case b[0] == nowhere:
		return infinity(), len(b) == 1
	case b[0] != uncompressed || len(b) != 1+2*d.size:
		return infinity(), false
	}
	p := api.Point{X: limb.FromBytes(b[1 : 1+d.size]), Y: limb.FromBytes(b[1+d.size:])}
	if !d.has(p) {
		return infinity(), false
	}
	return p, true
}
