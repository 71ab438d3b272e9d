package aesmodes

import "slices"

// pile is a string of bytes that grows at its end. What it holds is never
// written to, so that two that have the same beginning share it.
type pile struct {
	below *pile
	top   []byte
	total int
}

// length returns the number of bytes in p.
func (p *pile) length() int {
	if p == nil {
		return 0
	}
	return p.total
}

// add returns the pile of the bytes of p and of b. A top that is no longer than
// what comes onto it becomes one with that, so that many short ones neither
// take much more room than their bytes nor are copied often.
func (p *pile) add(b []byte) *pile {
	total := p.length() + len(b)
	top := slices.Clone(b)
	for p != nil && len(p.top) <= len(top) {
		top = slices.Concat(p.top, top)
		p = p.below
	}
	return &pile{p, top, total}
}

// bytes returns the bytes of p in new memory.
func (p *pile) bytes() []byte {
	out := make([]byte, p.length())
	for end := len(out); p != nil; p = p.below {
		end -= len(p.top)
		copy(out[end:], p.top)
	}
	return out
}
