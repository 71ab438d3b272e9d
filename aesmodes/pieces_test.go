package aesmodes_test

import (
	"bytes"
	"iter"
	"slices"
	"testing"

	"bailey/aesmodes"
	"bailey/api"
)

// gathered is what an iterator over pieces yields; it fails the test if one of
// them is empty.
func gathered(t *testing.T, each iter.Seq[[]byte], what ...any) (list [][]byte) {
	t.Helper()
	for piece := range each {
		if len(piece) == 0 {
			t.Fatalf("%v: an empty piece", what)
		}
		list = append(list, piece)
	}
	return list
}

// modelPieces is what another stream gives for the parts, without what is
// empty.
func modelPieces(t *testing.T, w way, parts [][]byte) (list [][]byte) {
	t.Helper()
	s := w.newStream(t)
	for _, part := range parts {
		list = append(list, s.Update(part))
	}
	last, _ := s.Final()
	return slices.DeleteFunc(append(list, last), func(b []byte) bool { return len(b) == 0 })
}

// sameList fails the test if got is not want.
func sameList(t *testing.T, got, want [][]byte, what ...any) {
	t.Helper()
	if !slices.EqualFunc(got, want, bytes.Equal) {
		t.Fatalf("%v: got %.16x, want %.16x", what, got, want)
	}
}

// P6.4: pieces of every size, of an input that random bytes are, and of one
// that the other direction made.
func TestPieces(t *testing.T) {
	for _, w := range ways() {
		for n := range 50 {
			inputs := [][]byte{some(int64(n), n)}
			if !w.encrypt && w.mode >= api.CBCPad {
				inputs = append(inputs, sealed(t, w, n))
			}
			for _, b := range inputs {
				for _, size := range []int{1, 5, 16, 17, 32, 100} {
					parts := slices.Collect(slices.Chunk(b, size))
					s := w.newStream(t)
					got := gathered(t, aesmodes.Pieces(s, slices.Values(parts)), w, n, size)
					sameList(t, got, modelPieces(t, w, parts), w, n, size)
					want, _ := w.model(t, b)
					same(t, bytes.Join(got, nil), want, w, n, size)
					over(t, s, w, n, size)
				}
			}
		}
	}
}

// P6.4: empty parts, alone and among others.
func TestPiecesEmptyParts(t *testing.T) {
	for _, w := range ways() {
		b := some(1, 32)
		for _, parts := range [][][]byte{
			{}, {nil}, {{}}, {nil, {}, nil},
			{nil, b}, {b, nil}, {b[:16], nil, {}, b[16:]}, {b[:5], nil, b[5:21], {}, b[21:], nil, nil},
		} {
			s := w.newStream(t)
			got := gathered(t, aesmodes.Pieces(s, slices.Values(parts)), w, parts)
			sameList(t, got, modelPieces(t, w, parts), w, parts)
			over(t, s, w, parts)
		}
	}
}

// P6.4: a nil iterator has no parts: what Final returns is yielded.
func TestPiecesNil(t *testing.T) {
	for _, w := range ways() {
		s := w.newStream(t)
		each := aesmodes.Pieces(s, nil)
		if each == nil {
			t.Fatal("Pieces is nil")
		}
		sameList(t, gathered(t, each, w), modelPieces(t, w, nil), w)
		over(t, s, w)
		s = w.newStream(t)
		s.Update(some(2, 21))
		want, _ := w.model(t, some(2, 21))
		got := gathered(t, aesmodes.Pieces(s, nil), w)
		same(t, bytes.Join(got, nil), want[w.determined(21):], w, "behind an Update")
	}
	w := way{api.CBCPad, true, some(3, 16), some(4, 16)}
	want, _ := w.model(t, nil)
	sameList(t, gathered(t, aesmodes.Pieces(w.newStream(t), nil)), [][]byte{want})
}

// P6.4 and P6.6: a stream that has ended yields nothing, and a nil one.
func TestPiecesEnded(t *testing.T) {
	for _, w := range ways() {
		s := w.newStream(t)
		s.Final()
		for _, s := range []*aesmodes.Stream{s, nil, new(aesmodes.Stream)} {
			for _, parts := range []iter.Seq[[]byte]{nil, slices.Values([][]byte{some(1, 20), some(1, 12)})} {
				if got := gathered(t, aesmodes.Pieces(s, parts), w); len(got) > 0 {
					t.Fatalf("%v: %x", w, got)
				}
			}
		}
	}
}

// counted counts how often it is used and how many parts are taken of it.
type counted struct {
	uses, taken int
}

// parts are the parts, counted.
func (c *counted) parts(list ...[]byte) iter.Seq[[]byte] {
	return func(yield func([]byte) bool) {
		c.uses++
		for _, part := range list {
			c.taken++
			if !yield(part) {
				return
			}
		}
	}
}

// P6.4 and P0.7: the parts are used once, and only when the iterator is; then
// nothing is yielded any more.
func TestPiecesOnce(t *testing.T) {
	for _, w := range ways() {
		var c counted
		s := w.newStream(t)
		each := aesmodes.Pieces(s, c.parts(some(1, 16), some(2, 32), some(3, 7)))
		if c.uses != 0 || s.Holds() != 0 {
			t.Fatalf("%v: used by Pieces", w)
		}
		gathered(t, each, w)
		for range 3 {
			if got := gathered(t, each, w); len(got) > 0 {
				t.Fatalf("%v: again %x", w, got)
			}
		}
		if c.uses != 1 || c.taken != 3 {
			t.Fatalf("%v: %d uses, %d parts taken", w, c.uses, c.taken)
		}
	}
}

// P6.4 and P0.7: an iterator that is left early takes no further parts, and the
// stream goes on from there, also if the iterator is used again or within
// itself.
func TestPiecesLeft(t *testing.T) {
	b := some(5, 64)
	for _, w := range ways() {
		if w.mode == api.GCM && !w.encrypt {
			continue // which yields nothing ahead of its end
		}
		var c counted
		s := w.newStream(t)
		each := aesmodes.Pieces(s, c.parts(b[:20], b[20:40], b[40:60]))
		var got []byte
		for piece := range each {
			got = append(got, piece...)
			for piece := range each {
				t.Fatalf("%v: within itself %x", w, piece)
			}
			break
		}
		if c.uses != 1 || c.taken != 1 || len(gathered(t, each, w)) > 0 || c.uses != 1 || c.taken != 1 {
			t.Fatalf("%v: %d uses, %d parts taken", w, c.uses, c.taken)
		}
		if s.Holds() != 20-w.determined(20) {
			t.Fatalf("%v: Holds is %d", w, s.Holds())
		}
		want, rw := w.model(t, b)
		got = append(got, s.Update(b[20:])...)
		out, rv := s.Final()
		same(t, got, want[:w.determined(64)], w)
		agree(t, out, rv, want[w.determined(64):], rw, w)
	}
}

// P6.4: what Final returns can be left, too, and has been returned then.
func TestPiecesLeftLast(t *testing.T) {
	w := way{api.GCM, true, some(6, 16), gcmParam(some(7, 12), nil)}
	s := w.newStream(t)
	want, _ := w.model(t, some(8, 20))
	count := 0
	for piece := range aesmodes.Pieces(s, slices.Chunk(some(8, 20), 20)) {
		if count++; count == 2 {
			same(t, piece, want[20:])
			break
		}
	}
	over(t, s)
}

// P6.4: the parts go through the stream as they are yielded: what else is done
// with the stream between two of them counts, and a part may be changed when
// the next one comes.
func TestPiecesBetween(t *testing.T) {
	b := some(9, 96)
	for _, w := range ways() {
		if w.mode == api.GCM && !w.encrypt {
			continue
		}
		s := w.newStream(t)
		room := make([]byte, 20)
		parts := func(yield func([]byte) bool) {
			for i := 0; i < 60; i += 20 {
				copy(room, b[i:])
				if !yield(room) {
					return
				}
				spoil(room)
			}
		}
		each := aesmodes.Pieces(s, parts)
		s.Update(b[:20])
		got := [][]byte{}
		for piece := range each {
			got = append(got, piece)
			if len(got) == 1 {
				got = append(got, s.Update(b[:9]))
			}
		}
		whole := slices.Concat(b[:20], b[:20], b[:9], b[20:60])
		want, rw := w.model(t, whole)
		due := len(want)
		if rw != api.OK {
			due = w.determined(len(whole))
		}
		same(t, bytes.Join(got, nil), want[w.determined(20):due], w)
	}
}

// P6.4: one that takes the pieces may end the stream.
func TestPiecesEndedBetween(t *testing.T) {
	for _, w := range ways() {
		if w.mode == api.GCM && !w.encrypt {
			continue
		}
		var c counted
		s := w.newStream(t)
		count := 0
		for range aesmodes.Pieces(s, c.parts(some(1, 32), some(2, 32), some(3, 32))) {
			count++
			s.Final()
		}
		if count != 1 || c.uses != 1 || c.taken != 3 {
			t.Fatalf("%v: %d pieces, %d parts", w, count, c.taken)
		}
		over(t, s, w)
	}
}

// P0.1: parts that panic, or that go on after they were left, do not make the
// iterator panic; the input is not complete, so that the stream has not ended.
func TestPiecesPanic(t *testing.T) {
	b := some(10, 32)
	for _, w := range ways() {
		s := w.newStream(t)
		bad := func(yield func([]byte) bool) {
			yield(b)
			panic("parts")
		}
		want, _ := w.model(t, b)
		same(t, bytes.Join(gathered(t, aesmodes.Pieces(s, bad), w), nil), want[:w.determined(32)], w)
		if s.Holds() != 32-w.determined(32) {
			t.Fatalf("%v: Holds is %d", w, s.Holds())
		}
		s = w.newStream(t)
		stubborn := func(yield func([]byte) bool) {
			for range 3 {
				yield(b)
			}
		}
		for range aesmodes.Pieces(s, stubborn) {
			break
		}
		if w.mode == api.GCM && !w.encrypt {
			continue // it had nothing to be left at, so that it came to its end
		}
		if s.Holds() != 32-w.determined(32) {
			t.Fatalf("%v: Holds is %d behind one that was left", w, s.Holds())
		}
	}
}

// P0.1: a panic of one that takes the pieces goes through.
func TestPiecesTakerPanics(t *testing.T) {
	w := way{api.CTR, true, some(11, 16), counterParam(32, some(12, 16))}
	defer func() {
		if got := recover(); got != "taker" {
			t.Errorf("recovered %v", got)
		}
	}()
	for range aesmodes.Pieces(w.newStream(t), slices.Values([][]byte{some(1, 5)})) {
		panic("taker")
	}
	t.Error("no panic")
}
