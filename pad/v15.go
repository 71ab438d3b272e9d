package pad

import (
	"bytes"
	"iter"
	"slices"

	"bailey/api"
)

// What the encodings of version 1.5 have beside the message: three bytes of
// their own, and between those at least eight that fill them up.
const (
	minFilling = 8
	overhead   = 3 + minFilling
)

// frame returns n bytes that begin with 00 and mark and end with 00 and the
// message, and the piece of them between these, which is still to be filled.
func frame(n int, mark byte, message []byte) (em, filling []byte, rv api.RV) {
	switch {
	case n > maxBytes:
		return nil, nil, api.ArgumentsBad
	case n < overhead || len(message) > n-overhead:
		return nil, nil, api.DataLenRange
	}
	em = make([]byte, n)
	em[1] = mark
	start := n - len(message)
	copy(em[start:], message)
	return em, em[2 : start-1], api.OK
}

// Sign1 returns the n bytes of the encoding of t for a signature.
func Sign1(n int, t []byte) ([]byte, api.RV) {
	em, filling, rv := frame(n, 1, t)
	for i := range filling {
		filling[i] = 0xff
	}
	return em, rv
}

// Enc1 returns the n bytes of the encoding of m for encryption.
func Enc1(n int, m []byte, random iter.Seq[byte]) ([]byte, api.RV) {
	if random == nil {
		return nil, api.ArgumentsBad
	}
	em, filling, rv := frame(n, 2, m)
	switch {
	case rv != api.OK:
		return nil, rv
	case !fill(filling, random):
		return nil, api.GeneralError
	}
	return em, api.OK
}

// fill fills b, which is not empty, with the bytes of random that are not zero,
// and takes no more of random than that. It reports whether there were enough.
func fill(b []byte, random iter.Seq[byte]) (enough bool) {
	filled := 0
	// The loop panics if random goes on after it was left, and random may panic
	// by itself: what it has yielded by then is there nonetheless.
	defer func() {
		recover()
		enough = filled == len(b)
	}()
taking:
	for x := range random {
		if x == 0 { // it would end the filling
			continue taking
		}
		b[filled] = x
		filled++
		if filled == len(b) {
			break taking
		}
	}
	return
}

// Dec1 returns the message whose encoding for encryption is em.
func Dec1(em []byte) ([]byte, api.RV) {
	rest, ok := bytes.CutPrefix(em, []byte{0, 2})
	filling := bytes.IndexByte(rest, 0)
	if !ok || filling < minFilling {
		return nil, api.EncryptedInvalid
	}
	return slices.Clone(rest[filling+1:]), api.OK
}
