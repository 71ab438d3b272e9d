package aesmodes_test

import (
	"bytes"
	"crypto/aes"
	"crypto/cipher"
	"encoding/binary"
	"encoding/hex"
	"math/big"
	"math/rand"
	"strings"
	"testing"

	"bailey/aesmodes"
	"bailey/api"
)

// keySizes are the lengths of a key that are right.
var keySizes = []int{16, 24, 32}

// way is a mode with a key and a parameter, in one direction.
type way struct {
	mode       int
	encrypt    bool
	key, param []byte
}

// ways are all modes and directions, with parameters of several kinds.
func ways() (list []way) {
	for i, n := range keySizes {
		key := some(int64(10+i), n)
		iv := some(int64(20+i), 16)
		for _, encrypt := range []bool{true, false} {
			list = append(list,
				way{api.ECB, encrypt, key, nil},
				way{api.CBC, encrypt, key, iv},
				way{api.CBCPad, encrypt, key, iv},
				way{api.CTR, encrypt, key, counterParam(128, iv)},
				way{api.CTR, encrypt, key, counterParam(11, bytes.Repeat([]byte{255}, 16))},
				way{api.GCM, encrypt, key, gcmParam(iv[:12], nil)},
				way{api.GCM, encrypt, key, gcmParam(iv[:1+5*i], some(int64(30+i), 7+20*i))},
			)
		}
	}
	return list
}

// counterParam is the parameter of CTR.
func counterParam(width int, block []byte) []byte {
	return append([]byte{byte(width)}, block...)
}

// gcmParam is the parameter of GCM.
func gcmParam(iv, extra []byte) []byte {
	return append(append([]byte{byte(len(iv))}, iv...), extra...)
}

// newStream is New of arguments that are right.
func (w way) newStream(t *testing.T) *aesmodes.Stream {
	t.Helper()
	s, rv := aesmodes.New(w.mode, w.encrypt, w.key, w.param)
	if rv != api.OK || s == nil {
		t.Fatalf("New of the mode %d: %v, %#x", w.mode, s, rv)
	}
	return s
}

// all is All of b.
func (w way) all(b []byte) ([]byte, api.RV) {
	return aesmodes.All(w.mode, w.encrypt, w.key, w.param, b)
}

// back is the other direction.
func (w way) back() way {
	w.encrypt = !w.encrypt
	return w
}

// determined is how many bytes of output n bytes of input determine ahead of
// Final.
func (w way) determined(n int) int {
	switch {
	case w.mode == api.CTR, w.mode == api.GCM && w.encrypt:
		return n
	case w.mode == api.GCM, n == 0:
		return 0
	case w.mode == api.CBCPad && !w.encrypt:
		return (n - 1) / 16 * 16
	}
	return n / 16 * 16
}

// model is the output for b, by another AES, and what Final returns: if that is
// an error, the output is that of Update alone.
func (w way) model(t *testing.T, b []byte) ([]byte, api.RV) {
	t.Helper()
	block := otherAES(t, w.key)
	switch w.mode {
	case api.CTR:
		return modelCTR(block, int(w.param[0]), w.param[1:], b), api.OK
	case api.GCM:
		return w.modelGCM(t, block, b)
	case api.CBCPad:
		return w.modelPad(block, b)
	}
	out := w.modelBlocks(block, b[:len(b)/16*16])
	switch {
	case len(b)%16 == 0:
		return out, api.OK
	case w.encrypt:
		return out, api.DataLenRange
	}
	return out, api.EncryptedLenRange
}

// modelBlocks are whole blocks in ECB or CBC.
func (w way) modelBlocks(block cipher.Block, b []byte) []byte {
	out := make([]byte, len(b))
	switch {
	case w.mode != api.ECB && w.encrypt:
		cipher.NewCBCEncrypter(block, w.param).CryptBlocks(out, b)
	case w.mode != api.ECB:
		cipher.NewCBCDecrypter(block, w.param).CryptBlocks(out, b)
	default:
		for i := 0; i < len(b); i += 16 {
			if w.encrypt {
				block.Encrypt(out[i:], b[i:i+16])
			} else {
				block.Decrypt(out[i:], b[i:i+16])
			}
		}
	}
	return out
}

// modelPad is b in CBCPad.
func (w way) modelPad(block cipher.Block, b []byte) ([]byte, api.RV) {
	if w.encrypt {
		n := 16 - len(b)%16
		return w.modelBlocks(block, append(bytes.Clone(b), bytes.Repeat([]byte{byte(n)}, n)...)), api.OK
	}
	out := w.modelBlocks(block, b[:len(b)/16*16])
	early := out[:w.determined(len(b))]
	if len(b) == 0 || len(b)%16 != 0 {
		return early, api.EncryptedLenRange
	}
	n := int(out[len(out)-1])
	if n < 1 || n > 16 || strings.Repeat(string([]byte{byte(n)}), n) != string(out[len(out)-n:]) {
		return early, api.EncryptedInvalid
	}
	return out[:len(out)-n], api.OK
}

// modelCTR is b in CTR: the counter is a number, of which the remainder by
// 2^width is taken.
func modelCTR(block cipher.Block, width int, first, b []byte) []byte {
	start := new(big.Int).SetBytes(first)
	wrap := new(big.Int).Lsh(big.NewInt(1), uint(width))
	rest := new(big.Int).Mod(start, wrap)
	head := new(big.Int).Sub(start, rest)
	out := bytes.Clone(b)
	for i := range out {
		count := new(big.Int).Add(rest, big.NewInt(int64(i/16)))
		count.Mod(count, wrap).Add(count, head)
		mask := count.FillBytes(make([]byte, 16))
		block.Encrypt(mask, mask)
		out[i] ^= mask[i%16]
	}
	return out
}

// modelGCM is b in GCM.
func (w way) modelGCM(t *testing.T, block cipher.Block, b []byte) ([]byte, api.RV) {
	t.Helper()
	n := int(w.param[0])
	iv, extra := w.param[1:1+n], w.param[1+n:]
	other, err := cipher.NewGCMWithNonceSize(block, n)
	if err != nil {
		t.Fatal(err)
	}
	if w.encrypt {
		return other.Seal(nil, iv, b, extra), api.OK
	}
	if len(b) < 16 {
		return nil, api.EncryptedLenRange
	}
	out, err := other.Open(nil, iv, b, extra)
	if err != nil {
		return nil, api.EncryptedInvalid
	}
	return out, api.OK
}

// modelCMAC is the CMAC of b, with subkeys that are worked out on numbers.
func modelCMAC(t *testing.T, key, b []byte) []byte {
	t.Helper()
	block := otherAES(t, key)
	mac := make([]byte, 16)
	block.Encrypt(mac, mac)
	sub := modelDouble(new(big.Int).SetBytes(mac))
	last := bytes.Clone(b[max(0, len(b)-1)/16*16:])
	if len(last) < 16 {
		sub = modelDouble(sub)
		last = append(append(last, 0x80), make([]byte, 15-len(last))...)
	}
	for i, x := range sub.FillBytes(make([]byte, 16)) {
		last[i] ^= x
	}
	whole := append(bytes.Clone(b[:max(0, len(b)-1)/16*16]), last...)
	cipher.NewCBCEncrypter(block, make([]byte, 16)).CryptBlocks(whole, whole)
	return whole[len(whole)-16:]
}

// modelDouble is twice n in the field of CMAC.
func modelDouble(n *big.Int) *big.Int {
	z := new(big.Int).Lsh(n, 1)
	if z.Bit(128) == 1 {
		z.Xor(z, new(big.Int).SetBit(big.NewInt(0x87), 128, 1))
	}
	return z
}

// modelWrap is the key wrap of b.
func modelWrap(t *testing.T, key, b []byte) []byte {
	t.Helper()
	return wrapFrom(t, key, 0xa6a6a6a6a6a6a6a6, b)
}

// wrapFrom is the key wrap of b with the initial value a, in the form of RFC
// 3394, 2.2.1, that shifts its registers.
func wrapFrom(t *testing.T, key []byte, a uint64, b []byte) []byte {
	t.Helper()
	block := otherAES(t, key)
	var r []uint64
	for i := 0; i < len(b); i += 8 {
		r = append(r, binary.BigEndian.Uint64(b[i:]))
	}
	for step := 1; step <= 6*len(b)/8; step++ {
		both := binary.BigEndian.AppendUint64(binary.BigEndian.AppendUint64(nil, a), r[0])
		block.Encrypt(both, both)
		a = binary.BigEndian.Uint64(both) ^ uint64(step)
		r = append(r[1:], binary.BigEndian.Uint64(both[8:]))
	}
	out := binary.BigEndian.AppendUint64(nil, a)
	for _, x := range r {
		out = binary.BigEndian.AppendUint64(out, x)
	}
	return out
}

// otherAES is AES of another hand.
func otherAES(t *testing.T, key []byte) cipher.Block {
	t.Helper()
	block, err := aes.NewCipher(key)
	if err != nil {
		t.Fatal(err)
	}
	return block
}

// some makes n bytes that follow from the seed.
func some(seed int64, n int) []byte {
	b := make([]byte, n)
	rand.New(rand.NewSource(seed)).Read(b)
	return b
}

// counting are n bytes that count from 0.
func counting(n int) []byte {
	b := make([]byte, n)
	for i := range b {
		b[i] = byte(i)
	}
	return b
}

// same fails the test if got is not want.
func same(t *testing.T, got, want []byte, what ...any) {
	t.Helper()
	if !bytes.Equal(got, want) {
		t.Fatalf("%v: got %d bytes %.64x, want %d bytes %.64x", what, len(got), got, len(want), want)
	}
}

// refused fails the test if got is anything or rv is not want.
func refused(t *testing.T, got []byte, rv, want api.RV, what ...any) {
	t.Helper()
	if len(got) > 0 || rv != want {
		t.Fatalf("%v: got %d bytes %.64x and %#x, want none and %#x", what, len(got), got, rv, want)
	}
}

// agree fails the test if got and rv are not want and rw: of an error, no bytes.
func agree(t *testing.T, got []byte, rv api.RV, want []byte, rw api.RV, what ...any) {
	t.Helper()
	if rw != api.OK {
		refused(t, got, rv, rw, what...)
		return
	}
	if rv != api.OK {
		t.Fatalf("%v: got %#x, want none", what, rv)
	}
	same(t, got, want, what...)
}

// fromHex are the bytes that text says.
func fromHex(t *testing.T, text string) []byte {
	t.Helper()
	b, err := hex.DecodeString(strings.ReplaceAll(text, " ", ""))
	if err != nil {
		t.Fatal(err)
	}
	return b
}
