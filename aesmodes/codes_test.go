package aesmodes_test

import (
	"bytes"
	"testing"

	"bailey/aesmodes"
	"bailey/api"
)

// P6.5: the chapter's example of CMAC, and others of SP 800-38B.
func TestCMACExamples(t *testing.T) {
	text := fromHex(t, "6bc1bee22e409f96e93d7e117393172a ae2d8a571e03ac9c9eb76fac45af8e51 30c81c46a35ce411e5fbc1191a0a52ef f69f2445df4f9b17ad2b417be66c3710")
	for _, c := range []struct {
		key  string
		n    int
		want string
	}{
		{"2b7e151628aed2a6abf7158809cf4f3c", 0, "bb1d6929e95937287fa37d129b756746"},
		{"2b7e151628aed2a6abf7158809cf4f3c", 16, "070a16b46b4d4144f79bdd9dd04a287c"},
		{"2b7e151628aed2a6abf7158809cf4f3c", 40, "dfa66747de9ae63030ca32611497c827"},
		{"2b7e151628aed2a6abf7158809cf4f3c", 64, "51f0bebf7e3b9d92fc49741779363cfe"},
		{"8e73b0f7da0e6452c810f32b809079e5 62f8ead2522c6b7b", 0, "d17ddf46adaacde531cac483de7a9367"},
		{"8e73b0f7da0e6452c810f32b809079e5 62f8ead2522c6b7b", 40, "8a1de5be2eb31aad089a82e6ee908b0e"},
		{"603deb1015ca71be2b73aef0857d7781 1f352c073b6108d72d9810a30914dff4", 0, "028962f61b7bf89efc6b551f4667d983"},
		{"603deb1015ca71be2b73aef0857d7781 1f352c073b6108d72d9810a30914dff4", 64, "e1992190549f6ed5696a2c056c315410"},
	} {
		same(t, aesmodes.CMAC(fromHex(t, c.key), text[:c.n]), fromHex(t, c.want), c)
	}
	same(t, aesmodes.CMAC(fromHex(t, "2b7e151628aed2a6abf7158809cf4f3c"), nil), fromHex(t, "bb1d6929e95937287fa37d129b756746"))
}

// P6.5: CMAC of strings of all lengths about some blocks, and of long ones, with
// many keys: whether the subkeys come to x^128 hangs on the key.
func TestCMAC(t *testing.T) {
	for i := range int64(20) {
		for _, size := range keySizes {
			key := some(400+i, size)
			for n := range 70 {
				b := some(500+int64(n), n)
				same(t, aesmodes.CMAC(key, b), modelCMAC(t, key, b), i, size, n)
			}
		}
	}
	for _, n := range []int{65535, 65536, 65537} {
		same(t, aesmodes.CMAC(some(1, 16), some(2, n)), modelCMAC(t, some(1, 16), some(2, n)), n)
	}
	for _, x := range []byte{0, 0x80, 0xff} {
		for n := range 40 {
			b := bytes.Repeat([]byte{x}, n)
			same(t, aesmodes.CMAC(some(3, 32), b), modelCMAC(t, some(3, 32), b), x, n)
		}
	}
}

// P6.5: keys of all lengths.
func TestCodeKeys(t *testing.T) {
	wrapped := modelWrap(t, some(4, 16), some(5, 24))
	for n := range 100 {
		key := some(6, n)
		right := n == 16 || n == 24 || n == 32
		if mac := aesmodes.CMAC(key, some(7, 20)); right != (len(mac) == 16) || !right && mac != nil {
			t.Errorf("CMAC with a key of %d bytes: %x", n, mac)
		}
		if right {
			continue
		}
		for m := range 50 { // the fault of the length comes behind
			out, rv := aesmodes.Wrap(key, make([]byte, m))
			refused(t, out, rv, api.KeySizeRange, "Wrap", n, m)
			out, rv = aesmodes.Unwrap(key, make([]byte, m))
			refused(t, out, rv, api.KeySizeRange, "Unwrap", n, m)
		}
		out, rv := aesmodes.Unwrap(key, wrapped)
		refused(t, out, rv, api.KeySizeRange, "Unwrap", n)
	}
	if mac := aesmodes.CMAC(nil, nil); mac != nil {
		t.Errorf("CMAC without a key: %x", mac)
	}
}

// P6.5: the chapter's example of Wrap, and others of RFC 3394 (section 4).
func TestWrapExamples(t *testing.T) {
	data := "00112233445566778899aabbccddeeff"
	for _, c := range []struct {
		n          int
		data, want string
	}{
		{16, data, "1fa68b0a8112b447 aef34bd8fb5a7b82 9d3e862371d2cfe5"},
		{24, data, "96778b25ae6ca435 f92b5b97c050aed2 468ab8a17ad84e5d"},
		{32, data, "64e8c3f9ce0f5ba2 63e9777905818a2a 93c8191e7d6e8ae7"},
		{24, data + "0001020304050607", "031d33264e15d332 68f24ec260743edc e1c6c7ddee725a93 6ba814915c6762d2"},
		{32, data + "0001020304050607", "a8f9bc1612c68b3f f6e6f4fbe30e71e4 769c8b80a32cb895 8cd5d17d6b254da1"},
		{32, data + "000102030405060708090a0b0c0d0e0f", "28c9f404c4b810f4 cbccb35cfb87f826 3f5786e2d80ed326 cbc7f0e71a99f43b fb988b9b7a02dd21"},
	} {
		out, rv := aesmodes.Wrap(counting(c.n), fromHex(t, c.data))
		agree(t, out, rv, fromHex(t, c.want), api.OK, c)
		out, rv = aesmodes.Unwrap(counting(c.n), fromHex(t, c.want))
		agree(t, out, rv, fromHex(t, c.data), api.OK, c, "back")
	}
	out, rv := aesmodes.Wrap(counting(16), make([]byte, 8))
	refused(t, out, rv, api.DataLenRange)
}

// wraps fails the test if Wrap of b is not the model's, or Unwrap does not take
// it back.
func wraps(t *testing.T, key, b []byte) {
	t.Helper()
	want := modelWrap(t, key, b)
	out, rv := aesmodes.Wrap(key, b)
	agree(t, out, rv, want, api.OK, len(key), len(b))
	out, rv = aesmodes.Unwrap(key, want)
	agree(t, out, rv, b, api.OK, len(key), len(b), "back")
}

// P6.5: wraps of all short lengths, among them those at which the number of
// steps comes to a second byte, and of the longest ones.
func TestWrap(t *testing.T) {
	for _, size := range keySizes {
		for n := 16; n <= 600; n += 8 {
			wraps(t, some(8, size), some(int64(n), n))
		}
		for _, n := range []int{8192, 65520, 65528} {
			wraps(t, some(8, size), some(9, n))
		}
	}
	wraps(t, make([]byte, 16), make([]byte, 16))
	wraps(t, bytes.Repeat([]byte{0xff}, 32), bytes.Repeat([]byte{0xa6}, 64))
}

// P6.5: all other lengths are refused.
func TestWrapLengths(t *testing.T) {
	key := some(10, 16)
	for n := range 200 {
		checkLengths(t, key, n)
	}
	for n := 65500; n < 65600; n++ {
		if n == 65528 || n == 65520 || n == 65512 || n == 65504 || n == 65536 {
			continue // TestWrap has some of them, and they take long
		}
		checkLengths(t, key, n)
	}
	for _, n := range []int{65536, 65544, 131072, 1 << 20, 1<<20 + 1} {
		out, rv := aesmodes.Wrap(key, make([]byte, n))
		refused(t, out, rv, api.DataLenRange, n)
	}
	for _, n := range []int{65544, 131072, 1 << 20, 1<<20 + 1} {
		out, rv := aesmodes.Unwrap(key, make([]byte, n))
		refused(t, out, rv, api.WrappedLenRange, n)
	}
	out, rv := aesmodes.Unwrap(key, make([]byte, 65536))
	refused(t, out, rv, api.WrappedInvalid, 65536)
}

// checkLengths fails the test if Wrap or Unwrap of n bytes takes a wrong length,
// or refuses a right one.
func checkLengths(t *testing.T, key []byte, n int) {
	t.Helper()
	out, rv := aesmodes.Wrap(key, make([]byte, n))
	if n%8 != 0 || n < 16 || n > 65528 {
		refused(t, out, rv, api.DataLenRange, "Wrap", n)
	} else if rv != api.OK || len(out) != n+8 {
		t.Errorf("Wrap of %d bytes: %d bytes, %#x", n, len(out), rv)
	}
	out, rv = aesmodes.Unwrap(key, make([]byte, n))
	if n%8 != 0 || n < 24 || n > 65536 {
		refused(t, out, rv, api.WrappedLenRange, "Unwrap", n)
	} else {
		refused(t, out, rv, api.WrappedInvalid, "Unwrap", n)
	}
}

// P6.5: wrapped bytes of which a bit was changed, and with another key.
func TestUnwrapChanged(t *testing.T) {
	for _, n := range []int{16, 24, 64} {
		key := some(11, 24)
		wrapped, rv := aesmodes.Wrap(key, some(12, n))
		if rv != api.OK {
			t.Fatal(rv)
		}
		for i := range 8 * len(wrapped) {
			changed := bytes.Clone(wrapped)
			changed[i/8] ^= 1 << (i % 8)
			out, rv := aesmodes.Unwrap(key, changed)
			refused(t, out, rv, api.WrappedInvalid, n, i)
		}
		for i := range 8 * len(key) {
			other := bytes.Clone(key)
			other[i/8] ^= 1 << (i % 8)
			out, rv := aesmodes.Unwrap(other, wrapped)
			refused(t, out, rv, api.WrappedInvalid, n, i, "key")
		}
		for m := 24; m < len(wrapped); m += 8 {
			out, rv := aesmodes.Unwrap(key, wrapped[:m])
			refused(t, out, rv, api.WrappedInvalid, n, m, "shorter")
		}
	}
}

// P6.5: each byte of the initial value counts.
func TestUnwrapStart(t *testing.T) {
	key := some(13, 16)
	for i := range 64 {
		out, rv := aesmodes.Unwrap(key, wrapFrom(t, key, 0xa6a6a6a6a6a6a6a6^1<<i, some(14, 24)))
		refused(t, out, rv, api.WrappedInvalid, i)
	}
	out, rv := aesmodes.Unwrap(key, wrapFrom(t, key, 0xa6a6a6a6a6a6a6a6, some(14, 24)))
	agree(t, out, rv, some(14, 24), api.OK)
}
