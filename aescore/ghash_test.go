package aescore_test

import (
	"bytes"
	"crypto/aes"
	"crypto/cipher"
	"slices"
	"testing"

	"bailey/aescore"
)

// P5.2: the chapter's example of Times.
func TestTimesExample(t *testing.T) {
	x, y := fromHex(t, "0388dace60b6a392f328c2b971b2fe78"), fromHex(t, "66e94bd4ef8a2c3b884cfa59ca342b2e")
	want := fromHex(t, "5e2ec746917062882c85b0685353deb7")
	same(t, aescore.Times(x, y), want)
	same(t, aescore.Times(y, x), want)
}

// P5.2: any two factors, and the same one twice.
func TestTimes(t *testing.T) {
	for i := range int64(300) {
		x, y := some(30+i, 16), some(1030+i, 16)
		same(t, aescore.Times(x, y), modelTimes(x, y), i)
		same(t, aescore.Times(y, x), modelTimes(x, y), i, "the other way round")
		same(t, aescore.Times(x, x), modelTimes(x, x), i, "square")
	}
}

// P5.2: the powers of x with one another: the most significant bit of the first
// byte is the lowest one.
func TestTimesPowers(t *testing.T) {
	for i := range 128 {
		for j := range 128 {
			same(t, aescore.Times(bit(i), bit(j)), modelTimes(bit(i), bit(j)), i, j)
			if i+j < 128 {
				same(t, aescore.Times(bit(i), bit(j)), bit(i+j), i, j)
			}
		}
	}
	same(t, aescore.Times(bit(127), bit(1)), fromHex(t, "e1000000000000000000000000000000"), "x^128")
}

// P5.2: 0, 1, and all bits set.
func TestTimesEdges(t *testing.T) {
	zero, ones := make([]byte, 16), bytes.Repeat([]byte{0xff}, 16)
	for i := range int64(50) {
		x := some(50+i, 16)
		same(t, aescore.Times(x, zero), zero, i, "0")
		same(t, aescore.Times(zero, x), zero, i, "0")
		same(t, aescore.Times(x, bit(0)), x, i, "1")
		same(t, aescore.Times(bit(0), x), x, i, "1")
		same(t, aescore.Times(x, ones), modelTimes(x, ones), i, "ones")
		same(t, aescore.Times(ones, x), modelTimes(x, ones), i, "ones")
	}
	same(t, aescore.Times(zero, zero), zero, "0 and 0")
	same(t, aescore.Times(ones, ones), modelTimes(ones, ones), "ones and ones")
}

// P5.2: factors of all other lengths are refused, on either side and on both.
func TestTimesLengths(t *testing.T) {
	right := some(60, 16)
	for n := range 200 {
		if wrong := some(61, n); n != 16 {
			none(t, aescore.Times(wrong, right), n, "x")
			none(t, aescore.Times(right, wrong), n, "y")
			none(t, aescore.Times(wrong, wrong), n, "both")
		}
	}
	for _, wrong := range [][]byte{nil, {}, make([]byte, 0, 16), make([]byte, 15, 16), some(62, 65536)} {
		none(t, aescore.Times(wrong, right), len(wrong), "x")
		none(t, aescore.Times(right, wrong), len(wrong), "y")
	}
	none(t, aescore.Times(nil, nil))
	none(t, aescore.Times(make([]byte, 8), make([]byte, 24)))
}

// P5.2: GHASH of an example of GCM's, block by block.
func TestGHASHExample(t *testing.T) {
	h := fromHex(t, "66e94bd4ef8a2c3b884cfa59ca342b2e")
	b := fromHex(t, "0388dace60b6a392f328c2b971b2fe7800000000000000000000000000000080")
	same(t, aescore.GHASH(h, b[:16]), fromHex(t, "5e2ec746917062882c85b0685353deb7"))
	same(t, aescore.GHASH(h, b), fromHex(t, "f38cbb1ad69223dcc3457ae5b6b0f885"))
}

// P5.2: GHASH of all lengths about the multiples of 16, none among them.
func TestGHASH(t *testing.T) {
	all := some(70, 600)
	for i := range int64(3) {
		h := some(71+i, 16)
		for n := range 200 {
			same(t, aescore.GHASH(h, all[:n]), modelGHASH(h, all[:n]), i, n)
		}
		same(t, aescore.GHASH(h, all), modelGHASH(h, all), i, len(all))
	}
}

// P5.2: what is missing of a block is zeros, at its end.
func TestGHASHZeros(t *testing.T) {
	h, all := some(74, 16), some(75, 100)
	for n := range 100 {
		whole := append(bytes.Clone(all[:n]), make([]byte, (16-n%16)%16)...)
		want := aescore.GHASH(h, whole)
		for m := n; m <= len(whole); m++ {
			same(t, aescore.GHASH(h, whole[:m]), want, n, m)
		}
		longer := aescore.GHASH(h, append(whole, 0))
		if n > 0 && bytes.Equal(longer, want) {
			t.Errorf("%d: a block of zeros makes no difference", n)
		}
	}
}

// P5.2: GHASH of no bytes, and with a key of zeros, is zeros.
func TestGHASHNothing(t *testing.T) {
	zero := make([]byte, 16)
	for _, h := range [][]byte{zero, bit(0), some(76, 16)} {
		same(t, aescore.GHASH(h, nil), zero)
		same(t, aescore.GHASH(h, []byte{}), zero)
		same(t, aescore.GHASH(h, make([]byte, 0, 100)), zero)
	}
	for _, n := range []int{1, 15, 16, 17, 1000} {
		same(t, aescore.GHASH(zero, some(77, n)), zero, n)
	}
}

// P5.2: keys of all other lengths are refused, whatever b is.
func TestGHASHLengths(t *testing.T) {
	for _, b := range [][]byte{nil, {}, some(78, 15), some(78, 16), some(78, 17), some(78, 1000)} {
		for n := range 100 {
			if n != 16 {
				none(t, aescore.GHASH(make([]byte, n), b), n, len(b))
			}
		}
		for _, h := range [][]byte{nil, make([]byte, 0, 16), make([]byte, 15, 16), some(79, 65536)} {
			none(t, aescore.GHASH(h, b), len(h), len(b))
		}
	}
}

// P5.1 and P5.2: a GCM that is made of Encrypt and GHASH has the tags of
// another one.
func TestGCM(t *testing.T) {
	for _, n := range keySizes {
		for size := range 80 {
			key, iv, plain, extra := some(80, n), some(81, 12), some(82, size), some(83, (5*size)%37)
			other, err := aes.NewCipher(key)
			if err != nil {
				t.Fatal(err)
			}
			gcm, err := cipher.NewGCM(other)
			if err != nil {
				t.Fatal(err)
			}
			sealed := gcm.Seal(nil, iv, plain, extra)
			c := newCipher(t, key)
			h := c.Encrypt(make([]byte, 16))
			lengths := make([]byte, 16)
			lengths[6], lengths[7] = byte(8*len(extra)>>8), byte(8*len(extra))
			lengths[14], lengths[15] = byte(8*size>>8), byte(8*size)
			got := aescore.GHASH(h, slices.Concat(filled(extra), filled(sealed[:size]), lengths))
			for i, x := range c.Encrypt(append(iv, 0, 0, 0, 1)) {
				got[i] ^= x
			}
			same(t, got, sealed[size:], n, size)
		}
	}
}

// filled is b with zeros up to a multiple of 16 bytes.
func filled(b []byte) []byte {
	return append(bytes.Clone(b), make([]byte, (16-len(b)%16)%16)...)
}

// P0.1: GHASH of much.
func TestGHASHMuch(t *testing.T) {
	h, all := some(84, 16), some(85, 1<<18+5)
	y := make([]byte, 16)
	for block := range slices.Chunk(filled(all), 16) {
		for i, x := range block {
			y[i] ^= x
		}
		y = aescore.Times(y, h)
	}
	same(t, aescore.GHASH(h, all), y)
}
