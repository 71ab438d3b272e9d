package der

import (
	"bytes"

	"bailey/api"
)

// maxDigits is the number of bytes that follow the first one of the greatest
// length in an encoding that Write returns.
const maxDigits = 2

// part is a sequence that parse has come into: its Kids so far, and where its
// encoding ends.
type part struct {
	kids []api.Node
	end  int
}

// Read returns the node at the beginning of b and the number of bytes of its
// encoding, or false if Write returns no beginning of b for any node.
func Read(b []byte) (api.Node, int, bool) {
	n, end, ok := parse(b)
	if !ok {
		return api.Node{}, 0, false
	}
	// parse reads what is not DER, too: that, Write returns in another form or
	// not at all.
	again, ok := Write(n)
	if !ok || !bytes.Equal(again, b[:end]) {
		return api.Node{}, 0, false
	}
	return n, end, true
}

// parse returns the node at the beginning of b and where its encoding ends, or
// false if it does not end within b. The node need not be valid, nor a length
// as short as possible.
func parse(b []byte) (api.Node, int, bool) {
	var within []part
	at, end := 0, len(b)
nodes:
	for {
		tag, start, stop, ok := header(b, at, end)
		if !ok {
			return api.Node{}, 0, false
		}
		if tag == api.TagSeq && start < stop {
			within = append(within, part{nil, stop})
			at, end = start, stop
			continue
		}
		n := api.Node{Tag: tag, Bytes: append([]byte(nil), b[start:stop]...)}
		at = stop
		for last := len(within) - 1; last >= 0; last-- {
			p := &within[last]
			p.kids = append(p.kids, n)
			if at < p.end {
				end, within = p.end, within[:last+1]
				continue nodes
			}
			n = api.Node{Tag: api.TagSeq, Kids: p.kids}
		}
		return n, at, true
	}
}

// header returns the tag at the place at of b, and where the contents behind it
// start and stop, or false if they do not stop until end.
func header(b []byte, at, end int) (tag, start, stop int, ok bool) {
	if end-at < 2 {
		return 0, 0, 0, false
	}
	length, start := int(b[at+1]), at+2
	if length >= longForm {
		count := length - longForm
		if count > maxDigits || end-start < count {
			return 0, 0, 0, false
		}
		length = 0
		for _, digit := range b[start : start+count] {
			length = length<<8 | int(digit)
		}
		start += count
	}
	if length > end-start {
		return 0, 0, 0, false
	}
	return int(b[at]), start, start + length, true
}
