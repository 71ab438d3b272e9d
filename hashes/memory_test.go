package hashes_test

import (
	"slices"
	"testing"

	"bailey/hashes"
)

// calls are the functions that take byte strings and give one.
var calls = map[string]func(kind int, a, b []byte) []byte{
	"Of":      func(kind int, a, b []byte) []byte { return hashes.Of(kind, a, b) },
	"Of one":  func(kind int, a, _ []byte) []byte { return hashes.Of(kind, a) },
	"HMAC":    func(kind int, a, b []byte) []byte { return hashes.HMAC(kind, a, b, a) },
	"MGF1":    func(kind int, a, b []byte) []byte { return hashes.MGF1(kind, a, len(b)+1) },
	"PBKDF2":  func(kind int, a, b []byte) []byte { return hashes.PBKDF2(kind, a, b, 2, len(b)+1) },
	"PBKDF2s": func(kind int, a, b []byte) []byte { return hashes.PBKDF2(kind, a, b, 1, 20) },
	"Write": func(kind int, a, b []byte) []byte {
		h := hashes.New(kind)
		h.Write(a)
		h.Write(b)
		return h.Copy().Sum()
	},
}

// withRoom is b with spare capacity, in which no call may write.
func withRoom(b []byte) []byte {
	room := append(append(make([]byte, 0, len(b)+200), b...), make([]byte, 200)...)
	return room[:len(b)]
}

// P3.5: no call changes an argument, nor its spare capacity, and a result is
// memory of its own.
func TestMemory(t *testing.T) {
	lengths := []int{0, 1, 20, 63, 64, 65, 127, 128, 129, 300}
	for name, call := range calls {
		for _, k := range kinds {
			for _, n := range lengths {
				for _, m := range lengths {
					a, b := withRoom(some(40, n)), withRoom(some(41, m))
					keptA, keptB := slices.Clone(a[:cap(a)]), slices.Clone(b[:cap(b)])
					got := call(k.kind, a, b)
					want := slices.Clone(got)
					spoil(got)
					same(t, a[:cap(a)], keptA, name, k.kind, n, m, "first argument")
					same(t, b[:cap(b)], keptB, name, k.kind, n, m, "second argument")
					same(t, call(k.kind, a, b), want, name, k.kind, n, m, "again")
				}
			}
		}
	}
}

// P3.5: the same bytes as every argument.
func TestSameArgument(t *testing.T) {
	for name, call := range calls {
		for _, k := range kinds {
			for _, n := range []int{1, 64, 65, 128, 129, 300} {
				a := some(42, n)
				same(t, call(k.kind, a, a), call(k.kind, slices.Clone(a), slices.Clone(a)), name, k.kind, n)
				same(t, a, some(42, n), name, k.kind, n)
			}
		}
	}
}

// P3.5: Write does not retain its argument, and Sum gives out nothing that is
// kept.
func TestWriteMemory(t *testing.T) {
	for _, k := range kinds {
		for n := range 270 {
			all := some(43, n)
			want := hashOf(k.other, all, all)
			h := hashes.New(k.kind)
			h.Write(all)
			c := h.Copy()
			spoil(h.Sum())
			spoil(all)
			spoil(c.Sum())
			all = some(43, n)
			h.Write(all)
			spoil(all)
			same(t, h.Sum(), want, k.kind, n)
			c.Write(some(43, n))
			same(t, c.Sum(), want, k.kind, n)
		}
	}
}

// P3.5: the list of the parts is not changed either.
func TestParts(t *testing.T) {
	first, second := []byte("te"), []byte("xt")
	room := [][]byte{first, second, []byte("spare")}
	for _, k := range kinds {
		hashes.Of(k.kind, room[:2]...)
		hashes.HMAC(k.kind, room[0], room[:2]...)
		for i, want := range []string{"te", "xt", "spare"} {
			if string(room[i]) != want {
				t.Fatalf("part %d is %q", i, room[i])
			}
		}
		if &room[0][0] != &first[0] || &room[1][0] != &second[0] {
			t.Fatal("the list of the parts is changed")
		}
	}
}
