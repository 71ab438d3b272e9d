package aesmodes_test

import (
	"testing"

	"bailey/aesmodes"
	"bailey/api"
)

// goesBy fails the test if a stream to which b comes in parts, of sizes that go
// round, gives anything else than what is determined, or holds anything else,
// after one of them.
func goesBy(t *testing.T, w way, b []byte, sizes ...int) {
	t.Helper()
	want, rw := w.model(t, b)
	s := w.newStream(t)
	if s.Holds() != 0 {
		t.Fatalf("%v: Holds is %d at the beginning", w, s.Holds())
	}
	for i, done, given := 0, 0, 0; done < len(b); i++ {
		next := min(len(b), done+sizes[i%len(sizes)])
		out := s.Update(b[done:next])
		done = next
		due := w.determined(done)
		same(t, out, want[given:due], w, len(b), sizes, "after", done)
		given = due
		if s.Holds() != done-due {
			t.Fatalf("%v, %d bytes, %d: Holds is %d after %d, want %d", w, len(b), sizes, s.Holds(), done, done-due)
		}
	}
	out, rv := s.Final()
	agree(t, out, rv, want[w.determined(len(b)):], rw, w, len(b), sizes, "Final")
	over(t, s, w, len(b))
}

// over fails the test if the stream has not ended.
func over(t *testing.T, s *aesmodes.Stream, what ...any) {
	t.Helper()
	for _, b := range [][]byte{nil, {}, some(70, 1), some(70, 16), some(70, 100)} {
		if out := s.Update(b); out != nil {
			t.Fatalf("%v: Update returns %x behind the end", what, out)
		}
		if s.Holds() != 0 {
			t.Fatalf("%v: Holds is %d behind the end", what, s.Holds())
		}
		out, rv := s.Final()
		refused(t, out, rv, api.OpNotInit, append(what, "Final behind the end")...)
	}
}

// P6.2: the chapter's example.
func TestStreamExample(t *testing.T) {
	s := way{api.ECB, true, some(1, 16), nil}.newStream(t)
	if out := s.Update(some(2, 20)); len(out) != 16 {
		t.Errorf("Update returns %x", out)
	}
	if s.Holds() != 4 {
		t.Errorf("Holds is %d", s.Holds())
	}
	out, rv := s.Final()
	refused(t, out, rv, api.DataLenRange)
}

// P6.2 and P6.3: inputs in parts of every size.
func TestParts(t *testing.T) {
	for _, w := range ways() {
		for n := range 50 {
			for _, sizes := range [][]int{{1}, {2}, {3, 0}, {5, 11}, {7, 9, 16}, {15}, {16}, {17}, {31, 1}, {32}, {33}, {47, 0, 1}, {100}} {
				goesBy(t, w, some(int64(200+n), n), sizes...)
			}
		}
	}
}

// P6.2: two parts, cut anywhere, and three.
func TestCuts(t *testing.T) {
	for _, w := range ways()[:14] {
		for n := range 35 {
			for cut := 1; cut < n; cut++ {
				goesBy(t, w, some(3, n), cut, n-cut)
				goesBy(t, w, some(3, n), 1, cut, n)
			}
		}
	}
}

// sealed is an input of the other direction that comes of n bytes.
func sealed(t *testing.T, w way, n int) []byte {
	t.Helper()
	out, rv := w.back().all(some(int64(300+n), n))
	if rv != api.OK {
		t.Fatal(rv)
	}
	return out
}

// P6.2 and P6.3: parts of what is to be decrypted and is right, as a random
// input never is in CBCPad and GCM.
func TestPartsBack(t *testing.T) {
	for _, w := range ways() {
		if w.encrypt || w.mode < api.CBCPad {
			continue
		}
		for n := range 68 {
			for _, sizes := range [][]int{{1}, {3, 0}, {7, 9, 16}, {15}, {16}, {17}, {32, 1}, {33}, {100}} {
				goesBy(t, w, sealed(t, w, n), sizes...)
			}
		}
	}
}

// P6.2: parts of ever smaller and ever greater sizes, many small ones, and a
// long one among them.
func TestManyParts(t *testing.T) {
	for _, w := range ways()[:14] {
		var down, up []int
		for i := 1; i < 60; i++ {
			down, up = append(down, 60-i), append(up, i)
		}
		b := some(4, 1770)
		if !w.encrypt && w.mode >= api.CBCPad {
			b = sealed(t, w, 1750)
		}
		goesBy(t, w, b, down...)
		goesBy(t, w, b, up...)
		goesBy(t, w, b, 1, 1, 1, 500, 1, 2, 1)
		goesBy(t, w, b, 0, 1)
	}
}

// P0.1: many parts of one byte take no time that grows with what waits.
func TestManyBytes(t *testing.T) {
	for _, w := range ways()[:14] {
		if w.mode != api.GCM {
			continue
		}
		b := some(5, 1<<17)
		if !w.encrypt {
			b = sealed(t, w, 1<<17)
		}
		want, rw := w.model(t, b)
		s := w.newStream(t)
		var got []byte
		for i := range b {
			got = append(got, s.Update(b[i:i+1])...)
		}
		out, rv := s.Final()
		agree(t, append(got, out...), rv, want, rw, w.encrypt)
	}
}

// P6.2: empty parts change nothing, wherever they come.
func TestEmptyParts(t *testing.T) {
	for _, w := range ways() {
		for _, n := range []int{0, 1, 15, 16, 17, 32} {
			b := some(6, n)
			want, rw := w.model(t, b)
			s := w.newStream(t)
			none := func() {
				t.Helper()
				for _, part := range [][]byte{nil, {}, make([]byte, 0, 100)} {
					holds := s.Holds()
					if out := s.Update(part); len(out) > 0 || s.Holds() != holds {
						t.Fatalf("%v: an empty part gives %x, Holds is %d after %d", w, out, s.Holds(), holds)
					}
				}
			}
			none()
			same(t, s.Update(b), want[:w.determined(n)], w, n)
			none()
			out, rv := s.Final()
			agree(t, out, rv, want[w.determined(n):], rw, w, n)
		}
	}
}

// P6.3: the errors of Final, for inputs of all lengths up to three blocks.
func TestFinalErrors(t *testing.T) {
	for _, w := range ways() {
		for n := range 49 {
			s := w.newStream(t)
			s.Update(make([]byte, n))
			want := api.OK
			switch {
			case w.mode <= api.CBC && n%16 != 0 && w.encrypt:
				want = api.DataLenRange
			case w.mode <= api.CBC && n%16 != 0:
				want = api.EncryptedLenRange
			case w.encrypt:
			case w.mode == api.CBCPad && (n == 0 || n%16 != 0), w.mode == api.GCM && n < 16:
				want = api.EncryptedLenRange
			case w.mode == api.CBCPad, w.mode == api.GCM:
				want = api.EncryptedInvalid
			}
			out, rv := s.Final()
			if rv != want || rv != api.OK && len(out) > 0 {
				t.Errorf("%v, %d bytes: Final returns %x and %#x, want %#x", w, n, out, rv, want)
			}
			over(t, s, w, n)
		}
	}
}

// P6.3: Final as the first call.
func TestFinalFirst(t *testing.T) {
	for _, w := range ways() {
		s := w.newStream(t)
		want, rw := w.model(t, nil)
		out, rv := s.Final()
		agree(t, out, rv, want, rw, w)
		over(t, s, w)
	}
}

// P6.6: a nil stream, in every method, and what New returns with an error.
func TestNil(t *testing.T) {
	over(t, nil)
	s, _ := aesmodes.New(9, true, some(1, 16), nil)
	over(t, s)
}

// P0.1: a stream that New did not make.
func TestZeroValue(t *testing.T) {
	over(t, new(aesmodes.Stream))
}
