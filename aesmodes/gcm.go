package aesmodes

import (
	"bailey/aescore"
	"bailey/api"
)

// usualIV is the length of an initialization vector that GCM takes as it is,
// and counterWidth that of its counter in bits.
const (
	usualIV      = 12
	counterWidth = 32
)

// tag is a tag of GCM that is not complete yet.
type tag struct {
	key   [size]byte // of GHASH
	hash  [size]byte // of what was added
	fill  int        // how many bytes of a block are in hash that it is not multiplied for yet
	mask  [size]byte // what makes the last hash a tag
	extra int        // the lengths of the additional data and of the encrypted bytes
	text  int
}

// beginGCM takes the parameter of GCM, and reports whether it is one.
func (s *Stream) beginGCM(param []byte) bool {
	if len(param) == 0 || param[0] == 0 || len(param) <= int(param[0]) {
		return false
	}
	iv, extra := param[1:1+int(param[0])], param[1+int(param[0]):]
	key := [size]byte(s.cipher.Encrypt(make([]byte, size)))
	s.counter = counter{block: firstBlock(key, iv), width: counterWidth}
	s.tag = tag{key: key, extra: len(extra)}
	// The first counter block masks the tag, so that the input begins with the
	// second one.
	s.tag.mask = [size]byte(s.counter.mask(s.cipher, make([]byte, size)))
	s.tag.add(extra)
	s.tag.fillUp()
	return true
}

// firstBlock returns the first counter block of an initialization vector (SP
// 800-38D, 7.1).
func firstBlock(key [size]byte, iv []byte) [size]byte {
	if len(iv) == usualIV {
		return [size]byte(append(iv[:usualIV:usualIV], 0, 0, 0, 1))
	}
	hashed := tag{key: key, text: len(iv)}
	hashed.add(iv)
	return [size]byte(hashed.value())
}

// add adds b to what is hashed.
func (t *tag) add(b []byte) {
	for _, x := range b {
		t.hash[t.fill] ^= x
		t.fill++
		if t.fill == size {
			t.fillUp()
		}
	}
}

// fillUp adds zeros up to the end of the block.
func (t *tag) fillUp() {
	if t.fill > 0 {
		t.hash = [size]byte(aescore.Times(t.hash[:], t.key[:]))
		t.fill = 0
	}
}

// value returns the tag, now that everything is added.
func (t *tag) value() []byte {
	t.fillUp()
	t.add(number(8 * t.extra))
	t.add(number(8 * t.text))
	return xor(t.hash[:], t.mask[:])
}

// number returns the 8 bytes of n, the highest first.
func number(n int) []byte {
	out := make([]byte, 8)
	for i := range out {
		out[i] = byte(n >> (56 - 8*i))
	}
	return out
}

// seal returns the encryption of b, and adds it to the tag.
func (s *Stream) seal(b []byte) []byte {
	out := s.counter.mask(s.cipher, b)
	s.tag.add(out)
	s.tag.text += len(out)
	return out
}

// open returns the decryption of what waits, if it ends in its tag.
func (s *Stream) open() ([]byte, api.RV) {
	in := s.wait.bytes()
	if len(in) < size {
		return nil, api.EncryptedLenRange
	}
	text, end := in[:len(in)-size], in[len(in)-size:]
	s.tag.add(text)
	s.tag.text = len(text)
	if [size]byte(s.tag.value()) != [size]byte(end) {
		return nil, api.EncryptedInvalid
	}
	return s.counter.mask(s.cipher, text), api.OK
}
