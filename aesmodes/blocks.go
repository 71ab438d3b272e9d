package aesmodes

import (
	"bytes"
	"slices"

	"bailey/api"
)

// pass returns the output of the blocks that are complete with b: in ECB, CBC
// and CBCPad.
func (s *Stream) pass(b []byte) []byte {
	in := slices.Concat(s.wait.bytes(), b)
	out := make([]byte, 0, len(in))
blocks:
	for len(in) >= size {
		switch {
		case s.encrypt:
			out = append(out, s.encryptBlock(in[:size])...)
		case s.mode == api.CBCPad && len(in) == size:
			break blocks // it may be the last one, which ends in the padding
		default:
			out = append(out, s.decryptBlock(in[:size])...)
		}
		in = in[size:]
	}
	s.wait = new(pile).add(in)
	return out
}

// encryptBlock returns the encryption of the next block.
func (s *Stream) encryptBlock(b []byte) []byte {
	out := s.cipher.Encrypt(xor(b, s.chained[:]))
	s.chain(out)
	return out
}

// decryptBlock returns the decryption of the next block.
func (s *Stream) decryptBlock(b []byte) []byte {
	out := xor(s.cipher.Decrypt(b), s.chained[:])
	s.chain(b)
	return out
}

// chain chains the next block to the encrypted one b.
func (s *Stream) chain(b []byte) {
	if s.mode != api.ECB {
		s.chained = [size]byte(b)
	}
}

// xor returns the exclusive or of two strings of the same length.
func xor(a, b []byte) []byte {
	out := make([]byte, len(a))
	for i := range out {
		out[i] = a[i] ^ b[i]
	}
	return out
}

// padding returns the padding behind an input that ends with n bytes of a
// block.
func padding(n int) []byte {
	return bytes.Repeat([]byte{byte(size - n)}, size-n)
}

// passPadding returns the output of the last block, without its padding.
func (s *Stream) passPadding() ([]byte, api.RV) {
	if s.Holds() != size {
		return nil, api.EncryptedLenRange
	}
	last := s.decryptBlock(s.wait.bytes())
	n := size - int(last[size-1])
	if n < 0 || n == size || !bytes.Equal(last[n:], padding(n)) {
		return nil, api.EncryptedInvalid
	}
	return last[:n:n], api.OK
}
