package ecdsa_test

import (
	"bytes"
	"reflect"
	"slices"
	"sync"
	"testing"

	"bailey/api"
	"bailey/drbg"
	"bailey/ecdsa"
)

// withRoom is a with spare capacity, in which no call may write.
func withRoom[T uint64 | byte](a []T) []T {
	room := append(append(make([]T, 0, len(a)+4), a...), 7, 7, 7, 7)
	return room[:len(a)]
}

// spoil writes over a slice and its spare capacity.
func spoil[T uint64 | byte](a []T) {
	a = a[:cap(a)]
	for i := range a {
		a[i] ^= 0x5a
	}
}

// args are arguments with spare capacity.
type args struct {
	key       api.Nat
	pub       api.Point
	hash, sig []byte
}

// newArgs are arguments with these values.
func newArgs(key api.Nat, pub api.Point, hash, sig []byte) args {
	pub.X, pub.Y = withRoom(pub.X), withRoom(pub.Y)
	return args{withRoom(key), pub, withRoom(hash), withRoom(sig)}
}

// all are the arguments with all of their spare capacity, in new memory.
func (a args) all() (numbers []api.Nat, texts [][]byte) {
	for _, n := range []api.Nat{a.key, a.pub.X, a.pub.Y} {
		numbers = append(numbers, slices.Clone(n[:cap(n)]))
	}
	for _, b := range [][]byte{a.hash, a.sig} {
		texts = append(texts, bytes.Clone(b[:cap(b)]))
	}
	return numbers, texts
}

// spoil writes over the arguments.
func (a args) spoil() {
	for _, n := range []api.Nat{a.key, a.pub.X, a.pub.Y} {
		spoil(n)
	}
	spoil(a.hash)
	spoil(a.sig)
}

// result are the numbers and the bytes of a result, and its bool.
type result struct {
	numbers []api.Nat
	text    []byte
	ok      bool
}

// copied is r in new memory.
func (r result) copied() result {
	c := result{nil, bytes.Clone(r.text), r.ok}
	for _, n := range r.numbers {
		c.numbers = append(c.numbers, slices.Clone(n))
	}
	return c
}

// equals reports whether r and o are the same.
func (r result) equals(o result) bool {
	return r.ok == o.ok && bytes.Equal(r.text, o.text) &&
		slices.EqualFunc(r.numbers, o.numbers, func(x, y api.Nat) bool { return slices.Equal(x, y) })
}

// call is a call with these arguments and a generator.
type call struct {
	name string
	do   func(c int, a args) result
}

// tape is a new generator, the same one each time.
func tape() *drbg.DRBG {
	return drbg.New([]byte("memory"))
}

var calls = []call{
	{"Generate", func(c int, a args) result {
		key, pub, rv := ecdsa.Generate(c, tape())
		return result{[]api.Nat{key, pub.X, pub.Y}, nil, rv == api.OK}
	}},
	{"Public", func(c int, a args) result {
		pub, ok := ecdsa.Public(c, a.key)
		return result{[]api.Nat{pub.X, pub.Y}, nil, ok}
	}},
	{"Sign", func(c int, a args) result {
		sig, rv := ecdsa.Sign(c, a.key, a.hash, tape())
		return result{nil, sig, rv == api.OK}
	}},
	{"Verify", func(c int, a args) result { return result{nil, nil, ecdsa.Verify(c, a.pub, a.hash, a.sig)} }},
	{"Shared", func(c int, a args) result {
		secret, rv := ecdsa.Shared(c, a.key, a.pub)
		return result{nil, secret, rv == api.OK}
	}},
	{"Number", func(c int, a args) result { return result{[]api.Nat{ecdsa.Number(c, a.hash)}, nil, true} }},
}

// argLists are arguments of each curve: good ones, and bad ones.
func argLists(m model) []func() args {
	key, hash := m.key(50), some(51, m.size)
	sig, _ := m.sign(key, hash, drbg.New(nil))
	pub := m.fold(key).point()
	return []func() args{
		func() args { return newArgs(fromBig(key), pub, hash, sig) },
		func() args { return newArgs(append(fromBig(key), 0, 0), m.fold(key).ways()[3], some(52, 100), sig) },
		func() args { return newArgs(api.Nat{1}, pub, make([]byte, m.size+1), sig) },
		func() args { return newArgs(nil, api.Point{Inf: true, X: pub.X, Y: pub.Y}, nil, nil) },
		func() args { return newArgs(fromBig(m.N), m.offs()[5], hash[:3], sig[1:]) },
	}
}

// P0.3: no call changes an argument or its spare capacity, or keeps it, and
// every number and every string of a result is new memory.
func TestMemory(t *testing.T) {
	for _, m := range models {
		for i, list := range argLists(m) {
			for _, call := range calls {
				a := list()
				numbers, texts := a.all()
				got := call.do(m.c, a)
				want := got.copied()
				other := call.do(m.c, a)
				for j, n := range got.numbers {
					spoil(n)
					for k, x := range got.numbers[j+1:] {
						if !slices.Equal(x, want.numbers[j+1+k]) {
							t.Fatalf("%s, %d: two numbers of a result share memory", call.name, i)
						}
					}
				}
				spoil(got.text)
				numbersNow, textsNow := a.all()
				if !reflect.DeepEqual(numbers, numbersNow) || !reflect.DeepEqual(texts, textsNow) {
					t.Fatalf("%s, %d: an argument is changed, or given out", call.name, i)
				}
				a.spoil()
				if !other.equals(want) {
					t.Fatalf("%s, %d: a result is shared", call.name, i)
				}
				if again := call.do(m.c, list()); !again.equals(want) {
					t.Fatalf("%s, %d: what was given out is kept", call.name, i)
				}
			}
		}
	}
}

// P0.4: nothing is nothing, be it nil or empty.
func TestNil(t *testing.T) {
	for _, m := range models {
		key, pub := fromBig(m.key(53)), m.fold(m.key(53)).point()
		one, _ := ecdsa.Sign(m.c, key, nil, tape())
		two, _ := ecdsa.Sign(m.c, key, []byte{}, tape())
		if !bytes.Equal(one, two) || !ecdsa.Verify(m.c, pub, []byte{}, one) || !ecdsa.Verify(m.c, pub, nil, one) {
			t.Fatal(m.Name, one, two)
		}
		for _, zero := range []api.Nat{nil, {}, {0}, {0, 0, 0}} {
			side := m.from(toBig(nil), 1) // on both curves there is a point with an x of 0
			got, rv := ecdsa.Shared(m.c, api.Nat{1}, api.Point{X: zero, Y: fromBig(side.y)})
			gives(t, got, rv, make([]byte, m.size), m.Name, zero)
		}
	}
}

// P0.5: the same memory as more than one argument.
func TestSameArgument(t *testing.T) {
	for _, m := range models {
		n := withRoom(fromBig(m.Gx))
		kept := slices.Clone(n[:cap(n)])
		got, rv := ecdsa.Shared(m.c, n, api.Point{X: n, Y: fromBig(m.Gy)})
		gives(t, got, rv, m.bytes(m.fold(m.Gx).x), m.Name)
		if _, rv := ecdsa.Shared(m.c, n, api.Point{X: n, Y: n}); rv != api.DataInvalid || !slices.Equal(n[:cap(n)], kept) {
			t.Fatal(m.Name, rv)
		}
		// A signature of the bytes that it begins with.
		key, k := m.key(54), m.key(55)
		r := m.reduce(m.fold(k).x)
		s := m.over(m.times(r, plus(key, 1)), k)
		both := m.bytes(r, s)
		if pub := m.fold(key).point(); !ecdsa.Verify(m.c, pub, both, both) || !ecdsa.Verify(m.c, pub, both[:m.size], both) {
			t.Fatal(m.Name)
		}
	}
}

// P0.5: what a call returns does not hang on what went before, nor on what goes
// on at the same time with other generators.
func TestSameTime(t *testing.T) {
	for _, m := range models {
		list := argLists(m)[0]()
		want := make([]result, len(calls))
		for i, call := range calls {
			want[i] = call.do(m.c, list)
		}
		got := make([]result, len(calls))
		var wait sync.WaitGroup
		for i, call := range calls {
			wait.Go(func() { got[i] = call.do(m.c, list) })
		}
		wait.Wait()
		for i, call := range calls {
			if !got[i].equals(want[i]) {
				t.Fatalf("%s: %v, want %v", call.name, got[i], want[i])
			}
		}
	}
}
