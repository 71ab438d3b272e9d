package hashes_test

import (
	"bytes"
	"crypto/hmac"
	"crypto/pbkdf2"
	"math"
	"testing"

	"bailey/api"
	"bailey/hashes"
)

// P3.2: the example of HMAC, and those of RFC 4231.
func TestHMACExamples(t *testing.T) {
	sameHex(t, hashes.HMAC(api.SHA256, bytes.Repeat([]byte{7}, 150), []byte("te"), []byte("xt")),
		"2431296f8e27675b500fc706147f9671708aebaadbb0941936cb8a901a1722d4")
	hi := bytes.Repeat([]byte{0x0b}, 20)
	for kind, want := range map[int]string{
		api.SHA224: "896fb1128abbdf196832107cd49df33f47b4b1169912ba4f53684b22",
		api.SHA256: "b0344c61d8db38535ca8afceaf0bf12b881dc200c9833da726e9376c2e32cff7",
		api.SHA384: "afd03944d84895626b0825f4ab46907f15f9dadbe4101ec682aa034c7cebc59cfaea9ea9076ede7f4af152e8b2fa9cb6",
		api.SHA512: "87aa7cdea5ef619d4ff0b4241a1d6cb02379f4e2ce4ec2787ad0b30545e17cdedaa833b7d6b8a702038b274eaea3f4e4be9d914eeb61f1702e696c203a126854",
	} {
		sameHex(t, hashes.HMAC(kind, hi, []byte("Hi There")), want, kind)
	}
}

// P3.2: HMAC with keys of all lengths about a block, in one part and more.
func TestHMAC(t *testing.T) {
	all := some(20, 300)
	for _, k := range kinds {
		for n := range len(all) + 1 {
			h := hmac.New(k.other, all[:n])
			h.Write(all[n:])
			want := h.Sum(nil)
			same(t, hashes.HMAC(k.kind, all[:n], all[n:]), want, k.kind, n)
			half := n + len(all[n:])/2
			same(t, hashes.HMAC(k.kind, all[:n], nil, all[n:half], []byte{}, all[half:]), want, k.kind, n)
		}
		same(t, hashes.HMAC(k.kind, nil), hmac.New(k.other, nil).Sum(nil), k.kind)
		same(t, hashes.HMAC(k.kind, []byte{}, nil, nil), hmac.New(k.other, nil).Sum(nil), k.kind)
		long := some(21, 5000)
		h := hmac.New(k.other, long)
		h.Write(long)
		same(t, hashes.HMAC(k.kind, long, long), h.Sum(nil), k.kind)
	}
	for _, kind := range wrongKinds {
		none(t, hashes.HMAC(kind, nil), "HMAC", kind)
		none(t, hashes.HMAC(kind, all, all, all), "HMAC", kind)
	}
}

// P3.3: MGF1 of many lengths, up to the greatest.
func TestMGF1(t *testing.T) {
	sameHex(t, hashes.MGF1(api.SHA1, []byte("foo"), 5), "1ac9075cd4")
	for _, k := range kinds {
		for _, seed := range [][]byte{nil, {}, {0}, []byte("seed"), some(22, 200)} {
			var mask []byte
			for i := 0; len(mask) < api.MaxOut; i++ {
				mask = append(mask, hashOf(k.other, seed, []byte{0, 0, byte(i >> 8), byte(i)})...)
			}
			for _, n := range []int{1, 2, k.size - 1, k.size, k.size + 1, 2 * k.size, 2*k.size + 1, 1000, 256 * k.size, 256*k.size + 1, 65535, 65536} {
				if n <= api.MaxOut {
					same(t, hashes.MGF1(k.kind, seed, n), mask[:n], k.kind, n)
				}
			}
		}
	}
}

// P3.3: MGF1 of lengths out of range, and of kinds that are not valid.
func TestMGF1Range(t *testing.T) {
	for _, k := range kinds {
		for _, n := range []int{0, -1, -20, math.MinInt, 65537, 1 << 32, 1<<32 + 1, math.MaxInt} {
			none(t, hashes.MGF1(k.kind, []byte("seed"), n), "MGF1", k.kind, n)
		}
	}
	for _, kind := range wrongKinds {
		for _, n := range []int{-1, 0, 1, 32, 65536, 65537} {
			none(t, hashes.MGF1(kind, []byte("seed"), n), "MGF1", kind, n)
		}
	}
}

// P3.3: the example of PBKDF2, and those of RFC 6070.
func TestPBKDF2Examples(t *testing.T) {
	sameHex(t, hashes.PBKDF2(api.SHA256, []byte("password"), []byte("salt"), 3, 50)[:8], "ad35240ac683febf")
	none(t, hashes.PBKDF2(api.SHA1, nil, nil, 40000, 40), "40000 rounds of 2 blocks")
	for _, c := range []struct {
		pin, salt string
		rounds    int
		want      string
	}{
		{"password", "salt", 1, "0c60c80f961f0e71f3a9b524af6012062fe037a6"},
		{"password", "salt", 2, "ea6c014dc72d6f8ccd1ed92ace1d41f0d8de8957"},
		{"password", "salt", 4096, "4b007901b765489abead49d926f721d065a429c1"},
		{"passwordPASSWORDpassword", "saltSALTsaltSALTsaltSALTsaltSALTsalt", 4096, "3d2eec4fe41c849b80c8d83662c0e44a8b291a964cf2f07038"},
		{"pass\x00word", "sa\x00lt", 4096, "56fa6aa75548099dcc37d7f03425e0c3"},
	} {
		sameHex(t, hashes.PBKDF2(api.SHA1, []byte(c.pin), []byte(c.salt), c.rounds, len(c.want)/2), c.want, c.pin, c.rounds)
	}
}

// P3.3: PBKDF2 of many lengths.
func TestPBKDF2(t *testing.T) {
	pins := [][]byte{nil, []byte("1234"), some(23, 64), some(24, 65), some(25, 128), some(26, 129), some(27, 400)}
	for _, k := range kinds {
		for i, pin := range pins {
			salt := some(28, 9*i)
			for _, rounds := range []int{1, 2, 3, 8} {
				for _, n := range []int{1, k.size - 1, k.size, k.size + 1, 3*k.size - 1, 3 * k.size, 300*k.size + 7} {
					want, err := pbkdf2.Key(k.other, string(pin), salt, rounds, n)
					if err != nil {
						t.Fatal(err)
					}
					same(t, hashes.PBKDF2(k.kind, pin, salt, rounds, n), want, k.kind, len(pin), rounds, n)
				}
			}
		}
	}
}

// P3.3: rounds times blocks just at 65,536 and just above.
func TestPBKDF2Steps(t *testing.T) {
	for _, c := range []struct {
		kind, rounds, n int
		ok              bool
	}{
		{api.SHA1, 65536, 1, true}, {api.SHA1, 65536, 20, true}, {api.SHA1, 65536, 21, false}, {api.SHA1, 65537, 1, false},
		{api.SHA1, 32768, 40, true}, {api.SHA1, 32769, 40, false}, {api.SHA1, 32768, 41, false}, {api.SHA1, 32769, 21, false},
		{api.SHA1, 1, 65536, true}, {api.SHA1, 19, 65536, true}, {api.SHA1, 20, 65536, false}, {api.SHA1, 20, 65520, true},
		{api.SHA224, 65536, 28, true}, {api.SHA224, 65536, 29, false}, {api.SHA224, 27, 65536, true}, {api.SHA224, 28, 65536, false},
		{api.SHA256, 65536, 32, true}, {api.SHA256, 65536, 33, false}, {api.SHA256, 32, 65536, true}, {api.SHA256, 33, 65536, false},
		{api.SHA256, 33, 63520, true}, {api.SHA256, 33, 63521, false}, {api.SHA256, 21845, 96, true}, {api.SHA256, 21846, 96, false}, {api.SHA256, 21845, 97, false},
		{api.SHA384, 65536, 48, true}, {api.SHA384, 65536, 49, false}, {api.SHA384, 47, 65536, true}, {api.SHA384, 48, 65536, false},
		{api.SHA512, 65536, 64, true}, {api.SHA512, 65536, 65, false}, {api.SHA512, 64, 65536, true}, {api.SHA512, 65, 65536, false},
	} {
		got := hashes.PBKDF2(c.kind, []byte("pin"), []byte("salt"), c.rounds, c.n)
		if !c.ok {
			none(t, got, c)
			continue
		}
		want, err := pbkdf2.Key(kinds[c.kind-1].other, "pin", []byte("salt"), c.rounds, c.n)
		if err != nil {
			t.Fatal(err)
		}
		same(t, got, want, c)
	}
}

// P3.3: rounds and lengths out of range, and kinds that are not valid.
func TestPBKDF2Range(t *testing.T) {
	wrong := []int{0, -1, -65536, math.MinInt, math.MinInt + 1, 65537, 1 << 32, 1<<32 + 1, 1 << 62, 1 << 63 / 5, math.MaxInt - 1, math.MaxInt}
	for _, k := range kinds {
		for _, w := range wrong {
			for _, v := range append([]int{1, 2, 20, 65536}, wrong...) {
				none(t, hashes.PBKDF2(k.kind, []byte("pin"), []byte("salt"), w, v), "PBKDF2", k.kind, w, v)
				none(t, hashes.PBKDF2(k.kind, []byte("pin"), []byte("salt"), v, w), "PBKDF2", k.kind, v, w)
			}
		}
	}
	for _, kind := range wrongKinds {
		for _, rounds := range []int{-1, 0, 1, 65536, 65537} {
			for _, n := range []int{-1, 0, 1, 20, 65536, 65537} {
				none(t, hashes.PBKDF2(kind, []byte("pin"), []byte("salt"), rounds, n), "PBKDF2", kind, rounds, n)
			}
		}
	}
}
