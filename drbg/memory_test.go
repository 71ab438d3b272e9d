package drbg_test

import (
	"bytes"
	"slices"
	"sync"
	"testing"

	"bailey/api"
	"bailey/drbg"
)

// withRoom is list with spare capacity, in which no call may write.
func withRoom[E byte | uint64](list []E) []E {
	room := append(append(make([]E, 0, len(list)+100), list...), make([]E, 100)...)
	return room[:len(list)]
}

// spoil writes over a list and its spare capacity.
func spoil[E byte | uint64](list []E) {
	list = list[:cap(list)]
	for i := range list {
		list[i] ^= 0xa5
	}
}

// P0.3: New and Reseed neither change nor retain the entropy.
func TestEntropyMemory(t *testing.T) {
	for n := range 130 {
		first, more := withRoom(some(8, n)), withRoom(some(9, n))
		keptFirst, keptMore := slices.Clone(first[:cap(first)]), slices.Clone(more[:cap(more)])
		p := newPair(t, slices.Clone(first))
		p.d = drbg.New(first)
		same(t, first[:cap(first)], keptFirst, n, "New")
		spoil(first)
		p.bytes(33, n)
		p.m.reseed(slices.Clone(more))
		p.d.Reseed(more)
		same(t, more[:cap(more)], keptMore, n, "Reseed")
		spoil(more)
		p.bytes(33, n)
	}
}

// P0.3: Below neither changes nor retains the limit, and its result is memory of
// its own.
func TestBelowMemory(t *testing.T) {
	p := newPair(t, []byte("limit"))
	for i := range 200 {
		for _, m := range []api.Nat{power(i, 0), power(i, 3), ones(i+1, 0), ones(i+1, 2)} {
			m = withRoom(m)
			kept := slices.Clone(m[:cap(m)])
			want := p.m.below(toBig(m))
			got, _ := p.d.Below(m)
			other, _ := p.d.Below(m)
			wantOther := p.m.below(toBig(m))
			if !slices.Equal(m[:cap(m)], kept) {
				t.Fatalf("%d: Below changes its argument", i)
			}
			spoil(m)
			sameNat(t, got, want, i)
			spoil(got)
			sameNat(t, other, wantOther, i)
			spoil(other)
			if spoil(m); !slices.Equal(m[:cap(m)], kept) {
				t.Fatalf("%d: the result is the argument's memory", i)
			}
		}
	}
	p.bytes(40)
}

// P0.3: what Bytes returns is memory of its own, and its spare capacity shows
// nothing of what the generator is.
func TestBytesMemory(t *testing.T) {
	p := newPair(t, []byte("memory"))
	for n := 1; n < 200; n++ {
		got, want := p.d.Bytes(n), p.m.bytes(n)
		other, wantOther := p.d.Bytes(n), p.m.bytes(n)
		for _, b := range got[n:cap(got)] {
			if b != 0 {
				t.Fatalf("%d: behind the result lies %x", n, got[n:cap(got)])
			}
		}
		same(t, got, want, n)
		spoil(got)
		same(t, other, wantOther, n)
		spoil(other)
		p.bytes(n, n, "behind")
	}
}

// P0.5: two generators beside each other, from the same entropy and from other:
// no call of the one is seen in the other.
func TestTwo(t *testing.T) {
	a, b, c := newPair(t, []byte("same")), newPair(t, []byte("same")), newPair(t, []byte("other"))
	eachA, eachB := a.d.All(), b.d.All()
	for n := 1; n < 40; n++ {
		a.bytes(n, n, "a")
		b.all(eachB, n%3+1, n, "b")
		c.below(power(n, 1), n, "c")
		b.bytes(n+5, n, "b")
		a.reseed(some(10, n), n, "a")
		c.left(n, "c")
		b.left(n, "b")
		a.all(eachA, n%2+1, n, "a")
		c.reseed(nil, n, "c")
		a.left(n, "a")
		b.left(n, "b")
		c.bytes(n, n, "c")
	}
	outer := 0
	for x := range a.d.All() {
		same(t, []byte{x}, a.m.bytes(1), outer, "a")
		b.all(eachB, 2, outer, "b within a")
		c.all(c.d.All(), 1, outer, "c within a")
		if outer++; outer == 10 {
			break
		}
	}
}

// P0.5: the same calls of a new generator give the same.
func TestAgain(t *testing.T) {
	draw := func() []byte {
		d := drbg.New([]byte("again"))
		out := d.Bytes(50)
		n, _ := d.Below(power(64, 0))
		for _, limb := range n {
			out = append(out, byte(limb), byte(limb>>8))
		}
		for b := range d.All() {
			if out = append(out, b); len(out) > 70 {
				break
			}
		}
		d.Reseed([]byte("more"))
		return append(out, d.Bytes(9)...)
	}
	want := draw()
	for range 5 {
		same(t, draw(), want)
	}
}

// P0.5: generators that are used at the same time do not touch each other.
func TestSameTime(t *testing.T) {
	got := make([][]byte, 16)
	var wait sync.WaitGroup
	for i := range got {
		wait.Go(func() {
			d := drbg.New([]byte{byte(i % 4)})
			for range 30 {
				got[i] = append(got[i], d.Bytes(33)...)
			}
		})
	}
	wait.Wait()
	for i, b := range got {
		m := newModel([]byte{byte(i % 4)})
		var want []byte
		for range 30 {
			want = append(want, m.bytes(33)...)
		}
		if !bytes.Equal(b, want) {
			t.Errorf("generator %d gives something else", i)
		}
	}
}
