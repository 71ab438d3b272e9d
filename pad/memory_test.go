package pad_test

import (
	"bytes"
	"slices"
	"sync"
	"testing"

	"bailey/pad"
)

// withRoom is b with spare capacity, in which no call may write.
func withRoom(b []byte) []byte {
	room := append(append(make([]byte, 0, len(b)+100), b...), some(70, 100)...)
	return room[:len(b)]
}

// spoil writes over a slice and its spare capacity.
func spoil(b []byte) {
	b = b[:cap(b)]
	for i := range b {
		b[i] ^= 0xa5
	}
}

// call is a call with some byte strings as its arguments.
type call struct {
	name string
	do   func(args [][]byte) []byte
	args [][]byte
}

// calls are calls of every function, those that have no result too.
func calls() (list []call) {
	add := func(name string, do func(args [][]byte) []byte, args ...[]byte) {
		list = append(list, call{name, do, args})
	}
	for i, k := range kinds {
		for _, n := range []int{0, 1, 30, 60} {
			m, label, seed := some(71, n), some(72, 10*i), some(73, k.size)
			size := 2*k.size + 2 + 50
			add("Info", func(args [][]byte) []byte { b, _ := pad.Info(k.kind, args[0]); return b }, seed)
			add("Sign1", func(args [][]byte) []byte { b, _ := pad.Sign1(70, args[0]); return b }, m)
			add("Enc1", func(args [][]byte) []byte { b, _ := pad.Enc1(70, args[0], (&source{}).of(args[1])); return b }, m, nonzero(74, 70))
			add("Enc1, too few", func(args [][]byte) []byte { b, _ := pad.Enc1(70, args[0], (&source{}).of(args[1])); return b }, m, nonzero(74, 3))
			add("Dec1", func(args [][]byte) []byte { b, _ := pad.Dec1(args[0]); return b }, enc1(nonzero(75, 8+n), m))
			add("Dec1, none", func(args [][]byte) []byte { b, _ := pad.Dec1(args[0]); return b }, m)
			add("EncOAEP", func(args [][]byte) []byte {
				b, _ := pad.EncOAEP(k.kind, size, args[0], args[1], args[2])
				return b
			}, label, seed, m)
			dec := func(args [][]byte) []byte { b, _ := pad.DecOAEP(k.kind, args[0], args[1]); return b }
			add("DecOAEP", dec, label, k.oaep(0, seed, k.oaepBlock(size+20, label, m)))
			add("DecOAEP, none", dec, label, k.oaep(0, seed, k.oaepBlock(size+20, nil, m)[1:]))
			bits := 8*(k.size+50) + i
			add("EncPSS", func(args [][]byte) []byte { b, _ := pad.EncPSS(k.kind, bits, args[0], args[1]); return b }, seed, m)
			ver := func(args [][]byte) []byte {
				if pad.VerPSS(k.kind, bits, args[0], args[1], 20) {
					return []byte{1}
				}
				return nil
			}
			em := k.pss(bits, k.pssBlock(bits, some(76, 20)), k.salted(seed, some(76, 20)), 0xbc)
			add("VerPSS", ver, seed, em)
			add("VerPSS, false", ver, seed, k.mask(em, nil))
		}
	}
	return list
}

// P0.3: no call changes an argument or its spare capacity, and a result is new
// memory.
func TestMemory(t *testing.T) {
	for _, c := range calls() {
		var args, kept [][]byte
		for _, b := range c.args {
			b = withRoom(b)
			args, kept = append(args, b), append(kept, slices.Clone(b[:cap(b)]))
		}
		check := func(what string) {
			t.Helper()
			for i, b := range args {
				same(t, b[:cap(b)], kept[i], c.name, "argument", i, what)
			}
		}
		got, other := c.do(args), c.do(args)
		check("changed by the call")
		want := slices.Clone(got)
		same(t, other, want, c.name, "again")
		spoil(got)
		check("changed with a result")
		same(t, other, want, c.name, "changed with another result")
		for _, b := range args {
			spoil(b)
		}
		same(t, other, want, c.name, "changed with an argument")
	}
}

// P0.3 and P0.4: bytes behind the end of an argument are not read, and nil is
// as good as empty.
func TestRoom(t *testing.T) {
	for _, c := range calls() {
		want := c.do(c.args)
		var other [][]byte
		for _, b := range c.args {
			room := append(bytes.Clone(b), bytes.Repeat([]byte{1}, 200)...)
			if b = room[:len(b)]; len(b) == 0 {
				b = nil
			}
			other = append(other, b)
		}
		same(t, c.do(other), want, c.name)
	}
}

// P0.5: the same bytes as more than one argument.
func TestSameArgument(t *testing.T) {
	for _, k := range kinds {
		b := withRoom(some(77, k.size))
		kept := slices.Clone(b[:cap(b)])
		n := 3*k.size + 2
		em, rv := pad.EncOAEP(k.kind, n, b, b, b)
		gives(t, em, rv, k.oaep(0, kept[:k.size], k.oaepBlock(n, kept[:k.size], kept[:k.size])), k.kind)
		em, rv = pad.EncPSS(k.kind, 8*n, b, b)
		gives(t, em, rv, k.pss(8*n, k.pssBlock(8*n, kept[:k.size]), k.salted(kept[:k.size], kept[:k.size]), 0xbc), k.kind)
		same(t, b[:cap(b)], kept, k.kind)
	}
}

// P0.5: calls at the same time do not touch each other.
func TestSameTime(t *testing.T) {
	list := calls()
	got := make([][]byte, len(list))
	var wait sync.WaitGroup
	for i, c := range list {
		wait.Go(func() { got[i] = c.do(c.args) })
	}
	wait.Wait()
	for i, c := range list {
		same(t, got[i], c.do(c.args), c.name)
	}
}
