package aesmodes_test

import (
	"math"
	"testing"

	"bailey/aesmodes"
	"bailey/api"
)

// refuses fails the test if New or All do not return the error, in both
// directions.
func refuses(t *testing.T, mode int, key, param []byte, want api.RV) {
	t.Helper()
	for _, encrypt := range []bool{true, false} {
		s, rv := aesmodes.New(mode, encrypt, key, param)
		if s != nil || rv != want {
			t.Errorf("New(%d, %v, %d bytes, %.20x): %v, %#x, want nil, %#x", mode, encrypt, len(key), param, s, rv, want)
		}
		for _, b := range [][]byte{nil, some(1, 16), some(1, 17)} {
			out, rv := aesmodes.All(mode, encrypt, key, param, b)
			refused(t, out, rv, want, "All", mode, encrypt)
		}
	}
}

// takes fails the test if New returns an error in one of the directions.
func takes(t *testing.T, mode int, key, param []byte) {
	t.Helper()
	for _, encrypt := range []bool{true, false} {
		if s, rv := aesmodes.New(mode, encrypt, key, param); s == nil || rv != api.OK {
			t.Errorf("New(%d, %v, %d bytes, %.20x): %v, %#x", mode, encrypt, len(key), param, s, rv)
		}
	}
}

// params are a parameter of each mode.
func params() map[int][]byte {
	return map[int][]byte{
		api.ECB:    nil,
		api.CBC:    some(2, 16),
		api.CBCPad: some(2, 16),
		api.CTR:    counterParam(9, some(2, 16)),
		api.GCM:    {1, 2},
	}
}

// P6.1: the chapter's examples.
func TestNewExamples(t *testing.T) {
	refuses(t, 9, some(1, 16), nil, api.MechInvalid)
	refuses(t, api.ECB, some(1, 17), nil, api.KeySizeRange)
	refuses(t, api.CTR, some(1, 16), counterParam(0, some(2, 16)), api.MechParamInvalid)
	refuses(t, api.CTR, some(1, 16), counterParam(129, some(2, 16)), api.MechParamInvalid)
	refuses(t, api.GCM, some(1, 16), []byte{5, 0}, api.MechParamInvalid)
}

// P6.1: the modes are those of api, and no others, whatever the key and the
// parameter: their faults come behind.
func TestNewModes(t *testing.T) {
	for mode := -300; mode <= 300; mode++ {
		param, valid := params()[mode]
		if valid {
			takes(t, mode, some(1, 16), param)
			continue
		}
		for _, param := range params() {
			refuses(t, mode, some(1, 16), param, api.MechInvalid)
			refuses(t, mode, some(1, 17), param, api.MechInvalid)
		}
		refuses(t, mode, nil, some(2, 5), api.MechInvalid)
	}
	for _, mode := range []int{math.MinInt, math.MaxInt, math.MinInt + api.ECB, 1<<32 + api.ECB, 1<<16 + api.CBC, 1<<8 + api.GCM} {
		refuses(t, mode, some(1, 16), some(2, 16), api.MechInvalid)
		refuses(t, mode, nil, nil, api.MechInvalid)
	}
}

// P6.1: keys of 16, 24 and 32 bytes, and no others, whatever the parameter: its
// fault comes behind.
func TestNewKeys(t *testing.T) {
	for mode, param := range params() {
		for n := range 100 {
			if n == 16 || n == 24 || n == 32 {
				takes(t, mode, some(3, n), param)
				refuses(t, mode, some(3, n), []byte{0}, api.MechParamInvalid)
				continue
			}
			refuses(t, mode, some(3, n), param, api.KeySizeRange)
			refuses(t, mode, some(3, n), []byte{0}, api.KeySizeRange)
		}
		refuses(t, mode, nil, param, api.KeySizeRange)
		refuses(t, mode, some(3, 16)[:0], param, api.KeySizeRange)
		refuses(t, mode, some(3, 65536), param, api.KeySizeRange)
	}
}

// P6.1: ECB has no parameter.
func TestParamECB(t *testing.T) {
	takes(t, api.ECB, some(1, 16), nil)
	takes(t, api.ECB, some(1, 16), make([]byte, 0, 9))
	for n := 1; n < 40; n++ {
		refuses(t, api.ECB, some(1, 16), make([]byte, n), api.MechParamInvalid)
	}
	refuses(t, api.ECB, some(1, 16), make([]byte, 1<<20), api.MechParamInvalid)
}

// P6.1: the parameter of CBC and CBCPad has 16 bytes.
func TestParamCBC(t *testing.T) {
	for _, mode := range []int{api.CBC, api.CBCPad} {
		for n := range 300 {
			if n == 16 {
				takes(t, mode, some(1, 24), make([]byte, n))
				takes(t, mode, some(1, 24), some(2, n))
			} else {
				refuses(t, mode, some(1, 24), make([]byte, n), api.MechParamInvalid)
			}
		}
		refuses(t, mode, some(1, 24), nil, api.MechParamInvalid)
	}
}

// P6.1: the parameter of CTR has 17 bytes, of which the first one is from 1 to
// 128.
func TestParamCTR(t *testing.T) {
	for width := range 256 {
		if width >= 1 && width <= 128 {
			takes(t, api.CTR, some(1, 32), counterParam(width, some(2, 16)))
		} else {
			refuses(t, api.CTR, some(1, 32), counterParam(width, some(2, 16)), api.MechParamInvalid)
		}
		for n := range 40 {
			if n != 16 {
				refuses(t, api.CTR, some(1, 32), counterParam(width, some(2, n)), api.MechParamInvalid)
			}
		}
	}
	refuses(t, api.CTR, some(1, 32), nil, api.MechParamInvalid)
}

// P6.1: the parameter of GCM begins with the length of the initialization
// vector, from 1 on, and has at least as many bytes more.
func TestParamGCM(t *testing.T) {
	refuses(t, api.GCM, some(1, 16), nil, api.MechParamInvalid)
	for n := range 256 {
		for _, m := range []int{0, 1, n - 1, n, n + 1, n + 100, 255, 256} {
			if m < 0 {
				continue
			}
			param := append([]byte{byte(n)}, some(2, m)...)
			if n > 0 && m >= n {
				takes(t, api.GCM, some(1, 16), param)
			} else {
				refuses(t, api.GCM, some(1, 16), param, api.MechParamInvalid)
			}
		}
	}
}
