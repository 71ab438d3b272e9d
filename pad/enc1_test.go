package pad_test

import (
	"bytes"
	"crypto/rsa"
	"iter"
	"slices"
	"testing"

	"bailey/api"
	"bailey/drbg"
	"bailey/pad"
)

// enc1 is the encoding of m with the filling.
func enc1(filling, m []byte) []byte {
	return slices.Concat([]byte{0, 2}, filling, []byte{0}, m)
}

// P8.2: Enc1 of every n and m that fit, with no zero among the random bytes,
// and of an m that is longer.
func TestEnc1(t *testing.T) {
	all := some(10, 100)
	random := nonzero(11, 200)
	for n := 11; n < 100; n++ {
		for size := range all {
			m := all[:size]
			var s source
			got, rv := pad.Enc1(n, m, s.of(random))
			if size > n-11 {
				refuses(t, got, rv, api.DataLenRange, n, size)
				s.took(t, 0, 0, n, size)
				continue
			}
			gives(t, got, rv, enc1(random[:n-3-size], m), n, size)
			s.took(t, 1, n-3-size, n, size)
		}
	}
}

// P8.2: zeros among the random bytes are left out, and are taken no further
// than to the last byte that is necessary.
func TestEnc1Zeros(t *testing.T) {
	for _, c := range []struct {
		random  []byte
		filling []byte // of which there are 8
		taken   int
	}{
		{[]byte{1, 2, 3, 4, 5, 6, 7, 8}, []byte{1, 2, 3, 4, 5, 6, 7, 8}, 8},
		{[]byte{1, 2, 3, 4, 5, 6, 7, 8, 0}, []byte{1, 2, 3, 4, 5, 6, 7, 8}, 8},
		{[]byte{1, 2, 3, 4, 5, 6, 7, 8, 0, 9, 0}, []byte{1, 2, 3, 4, 5, 6, 7, 8}, 8},
		{[]byte{0, 1, 2, 3, 4, 5, 6, 7, 8, 9}, []byte{1, 2, 3, 4, 5, 6, 7, 8}, 9},
		{[]byte{1, 2, 3, 4, 5, 6, 7, 0, 8, 9}, []byte{1, 2, 3, 4, 5, 6, 7, 8}, 9},
		{[]byte{0, 0, 0, 1, 0, 2, 0, 0, 3, 4, 0, 5, 6, 7, 0, 0, 0, 0, 8}, []byte{1, 2, 3, 4, 5, 6, 7, 8}, 19},
		{[]byte{255, 255, 255, 0, 255, 255, 255, 255, 128, 1}, []byte{255, 255, 255, 255, 255, 255, 255, 128}, 9},
		{append(make([]byte, 5000), 9, 9, 9, 9, 9, 9, 9, 9, 9), []byte{9, 9, 9, 9, 9, 9, 9, 9}, 5008},
	} {
		for _, m := range [][]byte{nil, {0}, {1, 0, 2}, some(12, 40)} {
			var s source
			got, rv := pad.Enc1(11+len(m), m, s.of(c.random))
			gives(t, got, rv, enc1(c.filling, m), c.random, m)
			s.took(t, 1, c.taken, c.random, m)
		}
	}
	for seed := range int64(200) {
		random := some(seed, 3000) // every byte of them is zero now and then
		filling := slices.DeleteFunc(bytes.Clone(random), func(x byte) bool { return x == 0 })[:997]
		taken := 0
		for left := len(filling); left > 0; taken++ {
			if random[taken] != 0 {
				left--
			}
		}
		var s source
		got, rv := pad.Enc1(1000, nil, s.of(random))
		gives(t, got, rv, enc1(filling, nil), seed)
		s.took(t, 1, taken, seed)
	}
}

// P8.2: a random that ends one byte too early, and one that ends just in time.
func TestEnc1Ends(t *testing.T) {
	for n := 11; n < 90; n++ {
		for _, m := range [][]byte{nil, some(13, (n-11)/2), some(14, n-11)} {
			need := n - 3 - len(m)
			plain := nonzero(15, need)
			zeros := slices.Concat(make([]byte, 3), plain[:need-1], make([]byte, 3), plain[need-1:])
			for _, random := range [][]byte{plain, zeros} {
				var s source
				got, rv := pad.Enc1(n, m, s.of(random))
				gives(t, got, rv, enc1(plain, m), n, len(m))
				s.took(t, 1, len(random), n, len(m))
				for _, short := range [][]byte{random[:len(random)-1], random[:1], nil, append(bytes.Clone(random[:len(random)-1]), 0, 0, 0)} {
					var s source
					got, rv := pad.Enc1(n, m, s.of(short))
					refuses(t, got, rv, api.GeneralError, n, len(m), len(short))
					s.took(t, 1, len(short), n, len(m), len(short))
				}
			}
			var s source
			got, rv := pad.Enc1(n, m, s.of(make([]byte, 1000)))
			refuses(t, got, rv, api.GeneralError, n, len(m), "zeros")
			s.took(t, 1, 1000, n, len(m), "zeros")
		}
	}
	got, rv := pad.Enc1(64, nil, (&source{}).of([]byte{1}))
	refuses(t, got, rv, api.GeneralError, "a random of one byte")
}

// P8.2: an endless random is asked no further than necessary, and only once.
func TestEnc1Endless(t *testing.T) {
	for n := 11; n < 300; n++ {
		m := some(16, (n-11)%37)
		var s source
		got, rv := pad.Enc1(n, m, s.endless([]byte{0, 7}))
		gives(t, got, rv, enc1(bytes.Repeat([]byte{7}, n-3-len(m)), m), n)
		s.took(t, 1, 2*(n-3-len(m)), n)
	}
	d, twin := drbg.New([]byte("endless")), drbg.New([]byte("endless"))
	for range 50 {
		before := d.Left()
		got, rv := pad.Enc1(64, []byte("text"), d.All())
		var filling []byte
		for taken := before; taken < d.Left(); taken++ {
			if x := twin.Bytes(1)[0]; x != 0 {
				filling = append(filling, x)
			}
		}
		gives(t, got, rv, enc1(filling, []byte("text")))
	}
}

// P8.2: n that is less than 11, and about 65,536; which error comes first, and
// that nothing is taken with it.
func TestEnc1Range(t *testing.T) {
	long, random := some(17, 70000), nonzero(18, 70000)
	refused := func(n int, m []byte, want api.RV) {
		t.Helper()
		var s source
		got, rv := pad.Enc1(n, m, s.endless(random))
		refuses(t, got, rv, want, n, len(m))
		got, rv = pad.Enc1(n, m, s.of(nil))
		refuses(t, got, rv, want, n, len(m), "a random that ends")
		s.took(t, 0, 0, n, len(m))
		got, rv = pad.Enc1(n, m, nil)
		refuses(t, got, rv, api.ArgumentsBad, n, len(m), "a nil random")
	}
	for _, n := range append([]int{2, 3, 7, 8, 9, 10}, tooFew...) {
		for _, m := range [][]byte{nil, {}, {1}, long[:11], long} {
			refused(n, m, api.DataLenRange)
		}
	}
	for _, n := range tooMany {
		for _, m := range [][]byte{nil, {}, {1}, long[:65525], long[:65526], long} {
			refused(n, m, api.ArgumentsBad)
		}
	}
	for _, n := range []int{11, 64, 65535, 65536} {
		for _, size := range []int{0, 1, n / 2, n - 12, n - 11} {
			if size < 0 || size > n-11 {
				continue
			}
			var s source
			got, rv := pad.Enc1(n, long[:size], s.endless(random))
			gives(t, got, rv, enc1(random[:n-3-size], long[:size]), n, size)
			s.took(t, 1, n-3-size, n, size)
			got, rv = pad.Enc1(n, long[:size], nil)
			refuses(t, got, rv, api.ArgumentsBad, n, size, "a nil random")
		}
		for _, size := range []int{n - 10, n - 9, n, n + 1, len(long)} {
			refused(n, long[:size], api.DataLenRange)
		}
	}
	got, rv := pad.Enc1(64, make([]byte, 54), drbg.New(nil).All())
	refuses(t, got, rv, api.DataLenRange, "the example")
}

// P0.1: a random that panics, or goes on after it was left, does not make Enc1
// panic: what counts is whether enough was found.
func TestEnc1Panic(t *testing.T) {
	want := enc1([]byte{1, 2, 3, 4, 5, 6, 7, 8}, []byte("m"))
	first := func(n byte) iter.Seq[byte] {
		return func(yield func(byte) bool) {
			for x := range n {
				yield(x + 1)
			}
			panic("random")
		}
	}
	for n := range byte(8) {
		got, rv := pad.Enc1(12, []byte("m"), first(n))
		refuses(t, got, rv, api.GeneralError, n)
	}
	for name, random := range map[string]iter.Seq[byte]{
		"left, it panics":         first(8),
		"left, it goes on":        first(9),
		"left, it goes on longer": first(200),
		"left, it goes on endlessly": func(yield func(byte) bool) {
			for x := byte(1); ; x++ {
				yield(x)
			}
		},
		"left, it goes on and recovers": func(yield func(byte) bool) {
			defer func() { recover() }()
			for x := byte(1); ; x++ {
				yield(x)
			}
		},
	} {
		got, rv := pad.Enc1(12, []byte("m"), random)
		gives(t, got, rv, want, name)
	}
}

// P0.5: the message is what it was at the call, whatever random does to it, and
// random may call Enc1 itself.
func TestEnc1Within(t *testing.T) {
	m := []byte("message")
	random := func(yield func(byte) bool) {
		for x := byte(1); ; x++ {
			m[int(x)%len(m)]++
			inner, rv := pad.Enc1(12, []byte("i"), (&source{}).endless([]byte{x}))
			gives(t, inner, rv, enc1(bytes.Repeat([]byte{x}, 8), []byte("i")), x)
			if !yield(x) {
				return
			}
		}
	}
	got, rv := pad.Enc1(18, m, random)
	gives(t, got, rv, enc1([]byte{1, 2, 3, 4, 5, 6, 7, 8}, []byte("message")))
}

// P8.2: Dec1 of every encoding, the filling and the message of any length.
func TestDec1(t *testing.T) {
	for filling := range 60 {
		for size := range 60 {
			for _, m := range [][]byte{some(19, size), make([]byte, size), nonzero(20, size), append([]byte{0, 2}, some(21, size)...)} {
				got, rv := pad.Dec1(enc1(nonzero(22, filling), m))
				if filling < 8 {
					refuses(t, got, rv, api.EncryptedInvalid, filling, size)
					continue
				}
				gives(t, got, rv, m, filling, size)
			}
		}
	}
	long := some(23, 1<<20)
	got, rv := pad.Dec1(enc1(nonzero(24, 1<<20), long))
	gives(t, got, rv, long, "long")
	got, rv = pad.Dec1(fromHex(t, "00 02 01 01 01 01 01 01 01 00 05"))
	refuses(t, got, rv, api.EncryptedInvalid, "the example")
	got, rv = pad.Dec1(fromHex(t, "00 02 01 01 01 01 01 01 01 01 00 05"))
	gives(t, got, rv, []byte{5}, "a byte more than the example")
}

// P8.2: Dec1 of bytes that do not begin with 00 02, for each other beginning.
func TestDec1Beginning(t *testing.T) {
	em := enc1(nonzero(25, 20), []byte("text"))
	for a := range 256 {
		for b := range 256 {
			em[0], em[1] = byte(a), byte(b)
			got, rv := pad.Dec1(em)
			if a == 0 && b == 2 {
				gives(t, got, rv, []byte("text"))
				continue
			}
			refuses(t, got, rv, api.EncryptedInvalid, a, b)
		}
	}
	whole := enc1(nonzero(26, 20), []byte("text"))
	for _, em := range [][]byte{whole[1:], whole[2:], append([]byte{0}, whole...), append([]byte{0, 0}, whole...), append([]byte{2}, whole...)} {
		got, rv := pad.Dec1(em)
		refuses(t, got, rv, api.EncryptedInvalid, em)
	}
}

// P8.2: Dec1 of bytes without a later 00, of those in which it comes too early
// though another one follows, and of short ones.
func TestDec1Filling(t *testing.T) {
	for n := range 400 {
		got, rv := pad.Dec1(append([]byte{0, 2}, nonzero(27, n)...))
		refuses(t, got, rv, api.EncryptedInvalid, n, "no 00")
	}
	for early := range 60 {
		em := append([]byte{0, 2}, nonzero(28, 60)...)
		em[2+early], em[50] = 0, 0
		got, rv := pad.Dec1(em)
		if early < 8 {
			refuses(t, got, rv, api.EncryptedInvalid, early)
			continue
		}
		gives(t, got, rv, em[2+min(early, 48)+1:], early)
	}
	whole := enc1(nonzero(29, 8), nil)
	got, rv := pad.Dec1(whole)
	gives(t, got, rv, nil, "an empty message")
	for n := range whole {
		for _, em := range [][]byte{whole[:n], make([]byte, n), bytes.Repeat([]byte{2}, n), append(bytes.Clone(whole[:min(n, 2)]), make([]byte, n)...)} {
			got, rv := pad.Dec1(em)
			refuses(t, got, rv, api.EncryptedInvalid, n, em)
		}
	}
	got, rv = pad.Dec1(nil)
	refuses(t, got, rv, api.EncryptedInvalid, "nil")
}

// P8.2: the ciphertexts of another program, and what it makes of those from
// Enc1.
func TestEnc1Ciphertexts(t *testing.T) {
	key := otherKey(t, 1024)
	for size := 0; size <= 117; size += 13 {
		m := some(30, size)
		text, err := rsa.EncryptPKCS1v15(reader(31), &key.PublicKey, m)
		if err != nil {
			t.Fatal(err)
		}
		got, rv := pad.Dec1(private(key, text, 128))
		gives(t, got, rv, m, size)
		em, rv := pad.Enc1(128, m, drbg.New(nil).All())
		if rv != api.OK {
			t.Fatal(rv)
		}
		back, err := rsa.DecryptPKCS1v15(nil, key, public(key, em, 128))
		if err != nil {
			t.Fatal(err)
		}
		same(t, back, m, size)
	}
}
