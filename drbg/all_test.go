package drbg_test

import (
	"iter"
	"math"
	"testing"

	"bailey/api"
	"bailey/drbg"
)

// all fails the test if n bytes of the iterator are not the model's next ones,
// or Left is not the model's at one of them.
func (p pair) all(each iter.Seq[byte], n int, what ...any) {
	p.Helper()
	for b := range each {
		same(p.T, []byte{b}, p.m.bytes(1), what...)
		p.left(what...)
		if n--; n == 0 {
			break
		}
	}
	if n != 0 {
		p.Fatalf("%v: it ends, %d bytes before it is left", what, n)
	}
	p.left(what...)
}

// P4.3: Left behind each kind of call, and behind Reseed.
func TestLeft(t *testing.T) {
	d := drbg.New([]byte("left"))
	for i, c := range []struct {
		name string
		do   func()
		want int
	}{
		{"New", func() {}, 0},
		{"Bytes", func() { d.Bytes(1) }, 1},
		{"Bytes of more", func() { d.Bytes(65536) }, 2},
		{"Bytes of none", func() { d.Bytes(0) }, 2},
		{"Bytes of less", func() { d.Bytes(math.MinInt) }, 2},
		{"Bytes of too many", func() { d.Bytes(65537) }, 2},
		{"Below", func() { d.Below(api.Nat{10}) }, 3},
		{"Below 1", func() { d.Below(api.Nat{1, 0}) }, 4},
		{"Below 0", func() { d.Below(nil) }, 4},
		{"Below of too many bits", func() { d.Below(power(4096, 0)) }, 4},
		{"All", func() { d.All() }, 4},
		{"a byte of All", func() {
			for range d.All() {
				break
			}
		}, 5},
		{"Left", func() { d.Left() }, 5},
		{"Reseed", func() { d.Reseed([]byte("more")) }, 0},
		{"Bytes again", func() { d.Bytes(33) }, 1},
		{"Reseed with nothing", func() { d.Reseed(nil) }, 0},
		{"Bytes of none again", func() { d.Bytes(-1) }, 0},
		{"Reseed again", func() { d.Reseed([]byte{}) }, 0},
	} {
		if c.do(); d.Left() != c.want {
			t.Errorf("%d, %s: Left is %d, want %d", i, c.name, d.Left(), c.want)
		}
	}
}

// P4.3: Left of many calls.
func TestLeftMany(t *testing.T) {
	d := drbg.New(nil)
	for i := range 3000 {
		if d.Left() != i {
			t.Fatalf("Left is %d, want %d", d.Left(), i)
		}
		d.Bytes(1)
	}
}

// P4.3: All goes over the results of Bytes(1), and does not end.
func TestAll(t *testing.T) {
	p := newPair(t, []byte("all"))
	p.all(p.d.All(), 5000)
	p.bytes(40, "behind")
}

// P4.3: what is never gone over draws nothing.
func TestAllUnused(t *testing.T) {
	p := newPair(t, []byte("unused"))
	for range 10 {
		p.d.All()
	}
	p.left()
	p.bytes(40)
}

// P4.3 and P0.7: left early, it has drawn what it yielded and no more, and taken
// up again it goes on behind that.
func TestAllLeft(t *testing.T) {
	p := newPair(t, []byte("early"))
	each := p.d.All()
	for n := 1; n < 40; n++ {
		p.all(each, n, n)
		p.all(p.d.All(), n, n, "another")
		p.bytes(n, n, "behind")
	}
}

// P4.3 and P0.7: one within another and within itself, all draw from the same
// generator.
func TestAllNested(t *testing.T) {
	p := newPair(t, []byte("nested"))
	each := p.d.All()
	outer := 0
	for b := range each {
		same(t, []byte{b}, p.m.bytes(1), outer)
		p.all(each, 3, outer, "itself")
		p.all(p.d.All(), 2, outer, "another")
		if outer++; outer == 20 {
			break
		}
	}
	p.bytes(40)
}

// P4.3: other calls between two bytes of All draw from the same generator.
func TestAllBetween(t *testing.T) {
	p := newPair(t, []byte("between"))
	n := 0
	for b := range p.d.All() {
		same(t, []byte{b}, p.m.bytes(1), n)
		switch n++; n % 5 {
		case 0:
			p.bytes(n, n)
		case 1:
			p.below(api.Nat{uint64(n), 7}, n)
		case 2:
			p.reseed(some(7, n), n)
		case 3:
			none(t, p.d.Bytes(0), n)
			refused(t, p.d, nil, n)
		}
		if n == 60 {
			break
		}
	}
	p.bytes(40)
}

// P4.3: an iterator of All that is older than other calls, Reseed among them,
// goes on from where the generator is.
func TestAllOld(t *testing.T) {
	p := newPair(t, []byte("old"))
	each := p.d.All()
	p.bytes(40)
	p.all(each, 3, "behind Bytes")
	p.below(power(100, 0))
	p.all(each, 3, "behind Below")
	p.reseed([]byte("more"))
	p.all(each, 3, "behind Reseed")
	p.bytes(40)
}

// P4.4: a nil generator, in every method.
func TestNil(t *testing.T) {
	var d *drbg.DRBG
	d.Reseed(nil)
	d.Reseed([]byte("more"))
	for _, n := range append([]int{1, 2, 32, 33, 65536}, wrongSizes...) {
		none(t, d.Bytes(n), n)
	}
	for i, m := range []api.Nat{nil, {}, {0}, {1}, {2}, {10, 0}, power(64, 0), ones(4096, 0), power(4096, 0)} {
		refused(t, d, m, i)
	}
	if d.Left() != 0 {
		t.Errorf("Left is %d", d.Left())
	}
	each := d.All()
	if each == nil {
		t.Fatal("All is nil")
	}
	for range 3 {
		for b := range each {
			t.Fatalf("All yields %d", b)
		}
	}
}

// P0.1: a generator that New did not make gives something, and does not panic.
func TestZeroValue(t *testing.T) {
	var d drbg.DRBG
	if len(d.Bytes(40)) != 40 || d.Left() != 1 {
		t.Errorf("Left is %d", d.Left())
	}
	if _, ok := d.Below(api.Nat{3}); !ok {
		t.Error("Below is false")
	}
	for range d.All() {
		break
	}
	d.Reseed([]byte("more"))
	if d.Left() != 0 {
		t.Errorf("Left is %d", d.Left())
	}
}
