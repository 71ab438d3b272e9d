package hashes_test

import (
	"bytes"
	"math"
	"slices"
	"testing"

	"bailey/hashes"
)

// P3.4: Chunks of many sizes.
func TestChunks(t *testing.T) {
	all := some(30, 40)
	for length := range len(all) + 1 {
		for _, n := range []int{1, 2, 3, 7, 19, 20, 21, 39, 40, 41, 1000, 1 << 40, math.MaxInt - 1, math.MaxInt} {
			next := 0
			var got []byte
			for i, piece := range hashes.Chunks(all[:length], n) {
				got = append(got, piece...)
				switch {
				case i != next:
					t.Fatalf("%d bytes by %d: index %d where %d is due", length, n, i, next)
				case len(piece) == 0 || len(piece) > n:
					t.Fatalf("%d bytes by %d: a piece of %d", length, n, len(piece))
				case len(piece) < n && len(got) < length:
					t.Fatalf("%d bytes by %d: piece %d has %d", length, n, i, len(piece))
				}
				next++
			}
			same(t, got, all[:length], length, n)
		}
	}
}

// P3.4: no bytes, and a size less than 1.
func TestChunksNone(t *testing.T) {
	for _, n := range []int{0, -1, -7, math.MinInt, math.MinInt + 1} {
		for _, b := range [][]byte{nil, {}, {1}, some(31, 100)} {
			each := hashes.Chunks(b, n)
			if each == nil {
				t.Fatalf("Chunks of %d is nil", n)
			}
			for i, piece := range each {
				t.Fatalf("%d bytes by %d: yields %d, %x", len(b), n, i, piece)
			}
		}
	}
	for _, n := range []int{1, 64, math.MaxInt} {
		for _, b := range [][]byte{nil, {}, make([]byte, 0, 100)} {
			for i, piece := range hashes.Chunks(b, n) {
				t.Fatalf("no bytes by %d: yields %d, %x", n, i, piece)
			}
		}
	}
}

// pieces are what an iterator of Chunks yields.
func pieces(each func(func(int, []byte) bool)) (list [][]byte) {
	each(func(i int, piece []byte) bool {
		list = append(list, piece)
		return true
	})
	return list
}

// spoil writes over a slice and its spare capacity.
func spoil(b []byte) {
	b = b[:cap(b)]
	for i := range b {
		b[i] ^= 0xa5
	}
}

// P3.4: the caller may change the pieces, and they are no memory of b, of each
// other, nor of what the iterator yields later.
func TestChunksPieces(t *testing.T) {
	for _, n := range []int{1, 3, 8, 10, 29, 30, 31, math.MaxInt} {
		room := some(32, 50)
		kept := slices.Clone(room)
		each := hashes.Chunks(room[:30], n)
		for _, piece := range each {
			spoil(piece)
		}
		list := pieces(each)
		var want [][]byte
		for _, piece := range list {
			want = append(want, slices.Clone(piece))
		}
		same(t, bytes.Join(list, nil), kept[:30], n, "changed before")
		for i := range list {
			spoil(list[i])
			for j := i + 1; j < len(list); j++ {
				same(t, list[j], want[j], n, i, j)
			}
		}
		same(t, room, kept, n, "the argument")
		same(t, bytes.Join(pieces(each), nil), kept[:30], n, "again")
	}
}

// P0.7: an iterator of Chunks goes over the bytes as they were at the call.
func TestChunksState(t *testing.T) {
	b := some(33, 30)
	kept := slices.Clone(b)
	each := hashes.Chunks(b, 7)
	spoil(b)
	same(t, bytes.Join(pieces(each), nil), kept)
	for range each {
		spoil(b)
	}
	same(t, bytes.Join(pieces(each), nil), kept)
}

// P0.7: it can be left early, used again and nested.
func TestChunksUses(t *testing.T) {
	b := some(34, 30)
	each := hashes.Chunks(b, 7)
	for want := 1; want <= 5; want++ {
		calls := 0
		each(func(int, []byte) bool { calls++; return calls < want })
		if calls != want {
			t.Errorf("left after %d pieces, it yields %d", want, calls)
		}
	}
	outer := 0
	for i, piece := range each {
		same(t, piece, b[7*i:min(7*i+7, 30)], i)
		for j, other := range each {
			if same(t, other, b[7*j:min(7*j+7, 30)], i, j); j == 2 {
				break
			}
		}
		outer++
	}
	if outer != 5 {
		t.Errorf("nested, it yields %d pieces", outer)
	}
}
