package pad

import (
	"bytes"
	"slices"

	"bailey/api"
	"bailey/hashes"
)

// overheadOAEP returns how many bytes an OAEP encoding has beside the message:
// the seed, the hash of the label, 00 at the beginning and 01 ahead of the
// message.
func overheadOAEP(kind int) int {
	return 2*hashes.Size(kind) + 2
}

// EncOAEP returns the n bytes of the OAEP encoding of m.
func EncOAEP(kind, n int, label, seed, m []byte) ([]byte, api.RV) {
	least := overheadOAEP(kind)
	switch {
	case n > maxBytes || !isHash(kind, seed):
		return nil, api.ArgumentsBad
	case n < least || len(m) > n-least:
		return nil, api.DataLenRange
	}
	zeros := make([]byte, n-least-len(m))
	block := slices.Concat(hashes.Of(kind, label), zeros, []byte{1}, m)
	hidden := masked(kind, block, seed)
	return slices.Concat([]byte{0}, masked(kind, seed, hidden), hidden), api.OK
}

// DecOAEP returns the message whose OAEP encoding is em.
func DecOAEP(kind int, label, em []byte) ([]byte, api.RV) {
	size := hashes.Size(kind)
	switch {
	case size == 0:
		return nil, api.ArgumentsBad
	case len(em) < overheadOAEP(kind) || len(em) > maxBytes || em[0] != 0:
		return nil, api.EncryptedInvalid
	}
	hidden := em[1+size:]
	seed := masked(kind, em[1:1+size], hidden)
	rest, labelled := bytes.CutPrefix(masked(kind, hidden, seed), hashes.Of(kind, label))
	m, ended := bytes.CutPrefix(bytes.TrimLeft(rest, "\x00"), []byte{1})
	if !labelled || !ended {
		return nil, api.EncryptedInvalid
	}
	return slices.Clone(m), api.OK
}
