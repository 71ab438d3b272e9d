package aesmodes_test

import (
	"bytes"
	"testing"

	"bailey/aescore"
	"bailey/aesmodes"
	"bailey/api"
)

// P6.2 and P6.4: the examples of SP 800-38A (appendix F), and of GCM's
// submission (test cases 4, 5 and 6).
func TestModeExamples(t *testing.T) {
	plain := fromHex(t, "6bc1bee22e409f96e93d7e117393172a ae2d8a571e03ac9c9eb76fac45af8e51 30c81c46a35ce411e5fbc1191a0a52ef f69f2445df4f9b17ad2b417be66c3710")
	key := fromHex(t, "2b7e151628aed2a6abf7158809cf4f3c")
	iv, first := counting(16), fromHex(t, "f0f1f2f3f4f5f6f7f8f9fafbfcfdfeff")
	gcmKey := fromHex(t, "feffe9928665731c6d6a8f9467308308")
	gcmPlain := fromHex(t, "d9313225f88406e5a55909c5aff5269a 86a7a9531534f7da2e4c303d8a318a72 1c3c0c95956809532fcf0e2449a6b525 b16aedf5aa0de657ba637b39")
	extra := fromHex(t, "feedfacedeadbeeffeedfacedeadbeefabaddad2")
	longIV := fromHex(t, "9313225df88406e555909c5aff5269aa 6a7a9538534f7da1e4c303d2a318a728 c3c0c95156809539fcf0e2429a6b5254 16aedbf5a0de6a57a637b39b")
	for _, c := range []struct {
		mode              int
		key, param, plain []byte
		want              string
	}{
		{api.ECB, key, nil, plain, "3ad77bb40d7a3660a89ecaf32466ef97 f5d3d58503b9699de785895a96fdbaaf 43b1cd7f598ece23881b00e3ed030688 7b0c785e27e8ad3f8223207104725dd4"},
		{api.CBC, key, iv, plain, "7649abac8119b246cee98e9b12e9197d 5086cb9b507219ee95db113a917678b2 73bed6b8e3c1743b7116e69e22229516 3ff1caa1681fac09120eca307586e1a7"},
		{api.CTR, key, counterParam(128, first), plain, "874d6191b620e3261bef6864990db6ce 9806f66b7970fdff8617187bb9fffdff 5ae4df3edbd5d35e5b4f09020db03eab 1e031dda2fbe03d1792170a0f3009cee"},
		{api.GCM, gcmKey, gcmParam(fromHex(t, "cafebabefacedbaddecaf888"), extra), gcmPlain, "42831ec2217774244b7221b784d0d49c e3aa212f2c02a4e035c17e2329aca12e 21d514b25466931c7d8f6a5aac84aa05 1ba30b396a0aac973d58e091 5bc94fbc3221a5db94fae95ae7121a47"},
		{api.GCM, gcmKey, gcmParam(fromHex(t, "cafebabefacedbad"), extra), gcmPlain, "61353b4c2806934a777ff51fa22a4755 699b2a714fcdc6f83766e5f97b6c7423 73806900e49f24b22b097544d4896b42 4989b5e1ebac0f07c23f4598 3612d2e79e3b0785561be14aaca2fccb"},
		{api.GCM, gcmKey, gcmParam(longIV, extra), gcmPlain, "8ce24998625615b603a033aca13fb894 be9112a5c3a211a8ba262a3cca7e2ca7 01e4a9a4fba43c90ccdcb281d48c7c6f d62875d2aca417034c34aee5 619cc5aefffe0bfa462af43c1699d050"},
		{api.GCM, make([]byte, 16), gcmParam(make([]byte, 12), nil), nil, "58e2fccefa7e3061367f1d57a4e7455a"},
	} {
		want := fromHex(t, c.want)
		out, rv := aesmodes.All(c.mode, true, c.key, c.param, c.plain)
		agree(t, out, rv, want, api.OK, c.mode)
		out, rv = aesmodes.All(c.mode, false, c.key, c.param, want)
		agree(t, out, rv, c.plain, api.OK, c.mode, "back")
	}
}

// P6.4: the chapter's examples.
func TestAllExamples(t *testing.T) {
	w := way{api.CBCPad, true, some(1, 16), some(2, 16)}
	out, rv := w.all(nil)
	if len(out) != 16 || rv != api.OK {
		t.Errorf("encrypting nothing: %x, %#x", out, rv)
	}
	out, rv = w.back().all(nil)
	refused(t, out, rv, api.EncryptedLenRange)
}

// P6.2 and P6.4: inputs of all lengths, in every mode and both directions, and
// back.
func TestAll(t *testing.T) {
	for _, w := range ways() {
		for n := range 100 {
			b := some(int64(100+n), n)
			want, rw := w.model(t, b)
			out, rv := w.all(b)
			agree(t, out, rv, want, rw, w, n)
			if w.encrypt && rv == api.OK {
				again, rv := w.back().all(out)
				agree(t, again, rv, b, api.OK, w, n, "back")
			}
		}
	}
}

// P6.2 and P6.4: inputs of bytes that are all the same.
func TestAllPlain(t *testing.T) {
	for _, w := range ways() {
		for _, x := range []byte{0, 1, 0x10, 0x80, 0xff} {
			b := bytes.Repeat([]byte{x}, 64)
			want, rw := w.model(t, b)
			out, rv := w.all(b)
			agree(t, out, rv, want, rw, w, x)
		}
	}
}

// P6.2 and P6.4: a long input.
func TestAllLong(t *testing.T) {
	for _, w := range ways()[:14] {
		for _, n := range []int{65535, 65536, 65537} {
			b := some(7, n)
			want, rw := w.model(t, b)
			out, rv := w.all(b)
			agree(t, out, rv, want, rw, w.mode, w.encrypt, n)
		}
	}
}

// P6.2: counters of all widths that go round, with ones ahead of them and with
// zeros.
func TestCounters(t *testing.T) {
	for width := 1; width <= 128; width++ {
		for _, head := range []byte{0, 0xff, 0x5a} {
			for _, from := range []int{1, 2, 5} {
				first := bytes.Repeat([]byte{head}, 16)
				for i := range width {
					first[15-i/8] |= 1 << (i % 8)
				}
				first[15] -= byte(from-1) & byte(1<<min(width, 8)-1)
				w := way{api.CTR, from%2 == 1, some(40, keySizes[width%3]), counterParam(width, first)}
				want, _ := w.model(t, some(41, 150))
				out, rv := w.all(some(41, 150))
				agree(t, out, rv, want, api.OK, width, head, from)
			}
		}
	}
}

// P6.2: counters of few bits go round often.
func TestSmallCounters(t *testing.T) {
	for width := 1; width <= 9; width++ {
		for seed := range int64(3) {
			w := way{api.CTR, true, some(42, 16), counterParam(width, some(43+seed, 16))}
			b := make([]byte, 16*3<<width+5)
			out, rv := w.all(b)
			want, _ := w.model(t, b)
			agree(t, out, rv, want, api.OK, width)
			same(t, out[16<<width:32<<width], out[:16<<width], width, "second round")
		}
	}
}

// P6.2: a counter of 128 bits goes on beyond its lower half.
func TestCounterCarry(t *testing.T) {
	for zeros := range 16 {
		first := append(bytes.Repeat([]byte{0x12}, zeros), bytes.Repeat([]byte{0xff}, 16-zeros)...)
		for _, width := range []int{8*(16-zeros) - 7, 8 * (16 - zeros), min(128, 8*(16-zeros)+1), 128} {
			w := way{api.CTR, false, some(44, 32), counterParam(width, first)}
			want, _ := w.model(t, make([]byte, 64))
			out, rv := w.all(make([]byte, 64))
			agree(t, out, rv, want, api.OK, zeros, width)
		}
	}
}

// P6.2: initialization vectors of GCM of all lengths, with additional data of
// many.
func TestGCM(t *testing.T) {
	for n := 1; n <= 255; n++ {
		for _, m := range []int{0, 1, 15, 16, 17, n} {
			w := way{api.GCM, true, some(50, keySizes[n%3]), gcmParam(some(51, n), some(52, m))}
			b := some(53, (n+3*m)%70)
			want, _ := w.model(t, b)
			out, rv := w.all(b)
			agree(t, out, rv, want, api.OK, n, m)
			out, rv = w.back().all(want)
			agree(t, out, rv, b, api.OK, n, m, "back")
		}
	}
}

// P6.2: GCM's counter has 32 bits: vectors whose first counter block ends in
// many ones, so that it goes round.
func TestGCMCounter(t *testing.T) {
	for i, end := range []string{"ffffffff", "fffffffe", "fffffffc", "00ffffff", "feffffff", "ffff00ff"} {
		key := some(54, keySizes[i%3])
		first := append(bytes.Repeat([]byte{0xff}, 12), fromHex(t, end)...)
		w := way{api.GCM, true, key, gcmParam(vectorOf(t, key, first), some(55, i))}
		want, _ := w.model(t, make([]byte, 100))
		same(t, want[:100], modelCTR(otherAES(t, key), 32, first, make([]byte, 116))[16:], end, "the model")
		out, rv := w.all(make([]byte, 100))
		agree(t, out, rv, want, api.OK, end)
		out, rv = w.back().all(want)
		agree(t, out, rv, make([]byte, 100), api.OK, end, "back")
	}
}

// vectorOf is the vector of 16 bytes with which GCM comes to the counter block
// first: GHASH is taken back with the inverse of its key, which is the 2^128 - 2
// th power of it.
func vectorOf(t *testing.T, key, first []byte) []byte {
	t.Helper()
	h := make([]byte, 16)
	otherAES(t, key).Encrypt(h, h)
	inverse, power := append([]byte{0x80}, make([]byte, 15)...), h
	for range 127 {
		power = aescore.Times(power, power)
		inverse = aescore.Times(inverse, power)
	}
	vector := aescore.Times(first, inverse)
	vector[15] ^= 128 // the length of the vector in bits
	return aescore.Times(vector, inverse)
}

// P6.3: GCM with a changed bit of the text, of the tag, of the additional data,
// of the vector or of the key, and with bytes too few or too many.
func TestGCMChanged(t *testing.T) {
	for _, n := range []int{0, 1, 15, 16, 17, 40} {
		w := way{api.GCM, true, some(55, 16), gcmParam(some(56, 12), some(57, 20))}
		sealed, rv := w.all(some(58, n))
		if rv != api.OK {
			t.Fatal(rv)
		}
		w = w.back()
		for i := range 8 * len(sealed) {
			changed := bytes.Clone(sealed)
			changed[i/8] ^= 1 << (i % 8)
			out, rv := w.all(changed)
			refused(t, out, rv, api.EncryptedInvalid, n, "bit", i)
		}
		for i := 8; i < 8*len(w.param); i++ {
			other := w
			other.param = bytes.Clone(w.param)
			other.param[i/8] ^= 1 << (i % 8)
			out, rv := other.all(sealed)
			refused(t, out, rv, api.EncryptedInvalid, n, "bit of the parameter", i)
		}
		for i := range 128 {
			other := w
			other.key = bytes.Clone(w.key)
			other.key[i/8] ^= 1 << (i % 8)
			out, rv := other.all(sealed)
			refused(t, out, rv, api.EncryptedInvalid, n, "bit of the key", i)
		}
		for m := range len(sealed) {
			want := api.EncryptedInvalid
			if m < 16 {
				want = api.EncryptedLenRange
			}
			out, rv := w.all(sealed[:m])
			refused(t, out, rv, want, n, "the first", m)
			out, rv = w.all(sealed[len(sealed)-m:])
			refused(t, out, rv, want, n, "the last", m)
		}
		out, rv := w.all(append(bytes.Clone(sealed), 0))
		refused(t, out, rv, api.EncryptedInvalid, n, "one more")
		w.param[0]++ // the first byte of the additional data becomes one of the vector
		out, rv = w.all(sealed)
		refused(t, out, rv, api.EncryptedInvalid, n, "longer vector")
	}
}

// P6.3: padding of every number, right, and with a byte of it wrong.
func TestPadding(t *testing.T) {
	w := way{api.CBCPad, false, some(60, 24), some(61, 16)}
	raw := way{api.CBC, true, w.key, w.param}
	for _, blocks := range []int{1, 2, 3} {
		for n := range 256 {
			plain := some(62, 16*blocks)
			for i := range min(n, 16) {
				plain[len(plain)-1-i] = byte(n)
			}
			plain[len(plain)-1] = byte(n)
			checkPadding(t, w, raw, plain, n)
			if n < 1 || n > 16 {
				continue
			}
			for i := range n - 1 {
				for _, x := range []byte{0, byte(n) - 1, byte(n) + 1, 0xff, byte(n) ^ 0x80} {
					other := bytes.Clone(plain)
					other[len(other)-2-i] = x
					checkPadding(t, w, raw, other, n)
				}
			}
		}
		for _, x := range []byte{0, 1, 2, 15, 16, 17, 255} {
			checkPadding(t, w, raw, bytes.Repeat([]byte{x}, 16*blocks), int(x))
		}
	}
}

// checkPadding fails the test if the padding of what is encrypted as plain, by
// which n bytes are meant, is taken wrongly.
func checkPadding(t *testing.T, w, raw way, plain []byte, n int) {
	t.Helper()
	sealed, rv := raw.all(plain)
	if rv != api.OK {
		t.Fatal(rv)
	}
	out, rv := w.all(sealed)
	if n < 1 || n > 16 || !bytes.Equal(plain[len(plain)-n:], bytes.Repeat([]byte{byte(n)}, n)) {
		refused(t, out, rv, api.EncryptedInvalid, "padding", n)
	} else {
		agree(t, out, rv, plain[:len(plain)-n], api.OK, "padding", n)
	}
}
