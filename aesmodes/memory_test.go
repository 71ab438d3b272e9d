package aesmodes_test

import (
	"bytes"
	"slices"
	"sync"
	"testing"

	"bailey/aesmodes"
	"bailey/api"
)

// withRoom is b with spare capacity, in which no call may write.
func withRoom(b []byte) []byte {
	room := append(append(make([]byte, 0, len(b)+100), b...), some(80, 100)...)
	return room[:len(b)]
}

// spoil writes over a slice and its spare capacity.
func spoil(b []byte) {
	b = b[:cap(b)]
	for i := range b {
		b[i] ^= 0xa5
	}
}

// untouched calls do with arguments that have spare capacity, and fails the
// test if it changes them, if two of its results are not the same, or if they
// share memory with each other or the arguments.
func untouched(t *testing.T, do func(args [][]byte) []byte, list ...[]byte) {
	t.Helper()
	var args, kept [][]byte
	for _, b := range list {
		b = withRoom(b)
		args = append(args, b)
		kept = append(kept, slices.Clone(b[:cap(b)]))
	}
	check := func(what string) {
		t.Helper()
		for i, b := range args {
			same(t, b[:cap(b)], kept[i], "argument", i, what)
		}
	}
	got, other := do(args), do(args)
	check("changed by the call")
	want := slices.Clone(got)
	same(t, other, want, "again")
	spoil(got)
	check("changed with a result")
	same(t, other, want, "changed with another result")
	for _, b := range args {
		spoil(b)
	}
	same(t, other, want, "changed with an argument")
}

// P0.3 and P6.6: the arguments stay as they are, and the results are new
// memory.
func TestMemory(t *testing.T) {
	for _, w := range ways() {
		for _, n := range []int{0, 5, 16, 32, 40} {
			b := some(81, n)
			if !w.encrypt && w.mode >= api.CBCPad {
				b = sealed(t, w, n)
			}
			untouched(t, func(args [][]byte) []byte {
				out, _ := aesmodes.All(w.mode, w.encrypt, args[0], args[1], args[2])
				return out
			}, w.key, w.param, b)
		}
	}
	for n := range 40 {
		untouched(t, func(args [][]byte) []byte { return aesmodes.CMAC(args[0], args[1]) }, some(82, 16), some(83, n))
	}
	untouched(t, func(args [][]byte) []byte { return aesmodes.CMAC(args[0], args[0]) }, some(82, 16))
	for n := 16; n < 50; n += 8 {
		untouched(t, func(args [][]byte) []byte {
			out, _ := aesmodes.Wrap(args[0], args[1])
			return out
		}, some(84, 24), some(85, n))
		wrapped := modelWrap(t, some(84, 24), some(85, n))
		untouched(t, func(args [][]byte) []byte {
			out, _ := aesmodes.Unwrap(args[0], args[1])
			return out
		}, some(84, 24), wrapped)
		wrapped[0]++
		untouched(t, func(args [][]byte) []byte {
			out, _ := aesmodes.Unwrap(args[0], args[1])
			return out
		}, some(84, 24), wrapped)
	}
}

// P0.5 and P6.6: the caller may change the key, the parameter, each part and
// each piece of output, as soon as the call is over.
func TestStreamMemory(t *testing.T) {
	for _, w := range ways() {
		for _, size := range []int{1, 5, 16, 17, 40} {
			b := some(86, 80)
			if !w.encrypt && w.mode >= api.CBCPad {
				b = sealed(t, w, 70)
			}
			want, rw := w.model(t, b)
			key, param := withRoom(w.key), withRoom(w.param)
			keptKey, keptParam := bytes.Clone(key[:cap(key)]), bytes.Clone(param[:cap(param)])
			s, rv := aesmodes.New(w.mode, w.encrypt, key, param)
			if rv != api.OK {
				t.Fatal(rv)
			}
			same(t, key[:cap(key)], keptKey, w, "key")
			same(t, param[:cap(param)], keptParam, w, "parameter")
			spoil(key)
			spoil(param)
			var got []byte
			for part := range slices.Chunk(b, size) {
				part = withRoom(part)
				kept := bytes.Clone(part[:cap(part)])
				out := s.Update(part)
				same(t, part[:cap(part)], kept, w, "part")
				got = append(got, out...)
				spoil(out)
				same(t, part[:cap(part)], kept, w, "part, with the output")
				spoil(part)
			}
			out, rv := s.Final()
			if rv != rw {
				t.Fatalf("%v: %#x, want %#x", w, rv, rw)
			}
			same(t, append(got, out...), want, w, size)
		}
	}
}

// P0.3: what Update and Final return shares no memory with each other.
func TestResultMemory(t *testing.T) {
	for _, w := range ways() {
		b := some(87, 48)
		if !w.encrypt && w.mode >= api.CBCPad {
			b = sealed(t, w, 40)
		}
		s := w.newStream(t)
		var list [][]byte
		for part := range slices.Chunk(b, 9) {
			list = append(list, s.Update(part))
		}
		last, _ := s.Final()
		list = append(list, last)
		var kept [][]byte
		for _, out := range list {
			kept = append(kept, bytes.Clone(out))
		}
		for i, out := range list {
			spoil(out)
			sameList(t, list[i+1:], kept[i+1:], w, i)
		}
	}
}

// P0.3: bytes behind the end of what is handed in are not read.
func TestRoom(t *testing.T) {
	whole := some(88, 200)
	for _, w := range ways() {
		for n := range 40 {
			want, rw := w.model(t, bytes.Clone(whole[:n]))
			out, rv := w.all(whole[:n])
			agree(t, out, rv, want, rw, w, n)
		}
		if w.mode == api.GCM {
			w.param = append(bytes.Clone(w.param), whole...)[:len(w.param)]
			want, rw := w.model(t, whole[:20])
			out, rv := w.all(whole[:20])
			agree(t, out, rv, want, rw, w)
		}
	}
	for n := range 40 {
		same(t, aesmodes.CMAC(whole[:16], whole[:n]), modelCMAC(t, whole[:16], bytes.Clone(whole[:n])), n)
	}
}

// P0.5: two streams are independent of each other, whatever their modes: each
// gives what it gives alone.
func TestTwo(t *testing.T) {
	for i, first := range ways() {
		for j, second := range ways() {
			a, b := some(89, 60), some(90, 50)
			wantA, rwA := first.model(t, a)
			wantB, rwB := second.model(t, b)
			s, u := first.newStream(t), second.newStream(t)
			var gotA, gotB []byte
			for k := range 10 {
				gotA = append(gotA, s.Update(a[6*k:6*k+6])...)
				gotB = append(gotB, u.Update(b[5*k:5*k+5])...)
			}
			outB, rvB := u.Final()
			outA, rvA := s.Final()
			same(t, append(gotA, outA...), wantA, i, j)
			same(t, append(gotB, outB...), wantB, i, j)
			if rvA != rwA || rvB != rwB {
				t.Fatalf("%d, %d: %#x and %#x, want %#x and %#x", i, j, rvA, rvB, rwA, rwB)
			}
		}
	}
}

// P0.5: a copy of a stream's value stands by itself, wherever it is made.
func TestCopy(t *testing.T) {
	a, b := some(91, 60), some(92, 60)
	for _, w := range ways() {
		for n := range 45 {
			s := w.newStream(t)
			head := s.Update(a[:n])
			other := *s
			third := *s
			gotA, gotB := slices.Concat(head, s.Update(a[n:n+3])), slices.Concat(head, other.Update(b[n:n+3]))
			gotA, gotB = append(gotA, s.Update(a[n+3:])...), append(gotB, other.Update(b[n+3:])...)
			for _, c := range []struct {
				s    *aesmodes.Stream
				got  []byte
				text []byte
			}{{s, gotA, a}, {&other, gotB, slices.Concat(a[:n], b[n:])}, {&third, slices.Clone(head), a[:n]}} {
				want, rw := w.model(t, c.text)
				out, rv := c.s.Final()
				same(t, append(c.got, out...), want, w, n)
				if rv != rw {
					t.Fatalf("%v, %d: %#x, want %#x", w, n, rv, rw)
				}
			}
		}
	}
}

// P0.5: streams that are used at the same time do not touch each other.
func TestSameTime(t *testing.T) {
	list := ways()
	type answer struct {
		out []byte
		rv  api.RV
	}
	got := make([]answer, len(list))
	var wait sync.WaitGroup
	for i, w := range list {
		wait.Go(func() {
			s, _ := aesmodes.New(w.mode, w.encrypt, w.key, w.param)
			for part := range slices.Chunk(some(93, 3000), 7) {
				got[i].out = append(got[i].out, s.Update(part)...)
			}
			rest, rv := s.Final()
			got[i] = answer{append(got[i].out, rest...), rv}
		})
	}
	wait.Wait()
	for i, w := range list {
		want, rw := w.model(t, some(93, 3000))
		same(t, got[i].out, want, w)
		if got[i].rv != rw {
			t.Errorf("%v: %#x, want %#x", w, got[i].rv, rw)
		}
	}
}
