package curve_test

import (
	"bytes"
	"math/big"
	"reflect"
	"slices"
	"sync"
	"testing"

	"bailey/api"
	"bailey/curve"
)

// withRoom is a with spare capacity, in which no call may write.
func withRoom[T uint64 | byte](a []T) []T {
	room := append(append(make([]T, 0, len(a)+4), a...), 7, 7, 7, 7)
	return room[:len(a)]
}

// spoil writes over a slice and its spare capacity.
func spoil[T uint64 | byte](a []T) {
	a = a[:cap(a)]
	for i := range a {
		a[i] ^= 0x5a
	}
}

// call is a call with points, a number and bytes as its arguments, and with
// numbers and bytes as its result.
type call struct {
	name string
	do   func(p, q api.Point, k api.Nat, b []byte) ([]api.Nat, []byte)
}

// ofPoint is the result of a call that returns a point.
func ofPoint(p api.Point, _ bool) ([]api.Nat, []byte) {
	return []api.Nat{p.X, p.Y}, nil
}

// calls are calls of every function of the curve c.
func calls(c int) []call {
	return []call{
		{"Prime", func(_, _ api.Point, _ api.Nat, _ []byte) ([]api.Nat, []byte) { return []api.Nat{curve.Prime(c)}, nil }},
		{"Order", func(_, _ api.Point, _ api.Nat, _ []byte) ([]api.Nat, []byte) { return []api.Nat{curve.Order(c)}, nil }},
		{"Base", func(_, _ api.Point, _ api.Nat, _ []byte) ([]api.Nat, []byte) { return ofPoint(curve.Base(c), true) }},
		{"On", func(p, _ api.Point, _ api.Nat, _ []byte) ([]api.Nat, []byte) { curve.On(c, p); return nil, nil }},
		{"Add", func(p, q api.Point, _ api.Nat, _ []byte) ([]api.Nat, []byte) { return ofPoint(curve.Add(c, p, q)) }},
		{"Neg", func(p, _ api.Point, _ api.Nat, _ []byte) ([]api.Nat, []byte) { return ofPoint(curve.Neg(c, p)) }},
		{"Mul", func(p, _ api.Point, k api.Nat, _ []byte) ([]api.Nat, []byte) { return ofPoint(curve.Mul(c, k, p)) }},
		{"Encode", func(p, _ api.Point, _ api.Nat, _ []byte) ([]api.Nat, []byte) {
			b, _ := curve.Encode(c, p)
			return nil, b
		}},
		{"Decode", func(_, _ api.Point, _ api.Nat, b []byte) ([]api.Nat, []byte) { return ofPoint(curve.Decode(c, b)) }},
		{"Multiples", func(p, _ api.Point, _ api.Nat, _ []byte) (list []api.Nat, _ []byte) {
			for _, q := range take(c, p, 3) {
				list = append(list, q.X, q.Y)
			}
			return list, nil
		}},
	}
}

// args are arguments with spare capacity, and a copy of all of it.
type args struct {
	p, q     api.Point
	k        api.Nat
	b        []byte
	kept     [][]uint64
	keptByte []byte
}

func newArgs(p, q api.Point, k api.Nat, b []byte) args {
	a := args{p: p, q: q, k: withRoom(k), b: withRoom(b)}
	a.p.X, a.p.Y, a.q.X, a.q.Y = withRoom(p.X), withRoom(p.Y), withRoom(q.X), withRoom(q.Y)
	for _, n := range a.numbers() {
		a.kept = append(a.kept, slices.Clone(n[:cap(n)]))
	}
	a.keptByte = slices.Clone(a.b[:cap(a.b)])
	return a
}

func (a args) numbers() []api.Nat {
	return []api.Nat{a.p.X, a.p.Y, a.q.X, a.q.Y, a.k}
}

// unchanged reports whether the arguments are what they were.
func (a args) unchanged() bool {
	for i, n := range a.numbers() {
		if !slices.Equal(n[:cap(n)], a.kept[i]) {
			return false
		}
	}
	return bytes.Equal(a.b[:cap(a.b)], a.keptByte)
}

// copied is a copy of a result.
func copied(list []api.Nat, b []byte) ([]api.Nat, []byte) {
	var out []api.Nat
	for _, n := range list {
		out = append(out, slices.Clone(n))
	}
	return out, slices.Clone(b)
}

// equal reports whether two results are equal.
func equal(list []api.Nat, b []byte, other []api.Nat, c []byte) bool {
	return slices.EqualFunc(list, other, func(x, y api.Nat) bool { return slices.Equal(x, y) }) && bytes.Equal(b, c)
}

// P0.3: no call changes an argument or its spare capacity, and every number of
// a result is new memory.
func TestMemory(t *testing.T) {
	for _, m := range models {
		var points []api.Point
		for _, s := range []spot{nowhere, m.base(), m.neg(m.base()), *m.smallY} {
			points = append(points, s.ways()[:2]...)
		}
		points = append(points, api.Point{}, api.Point{X: api.Nat{5, 0}, Y: api.Nat{6, 0}}, m.offs()[2])
		for _, p := range points {
			for _, q := range points {
				for _, call := range calls(m.c) {
					a := newArgs(p, q, api.Nat{1, 0}, m.encode(*m.smallY))
					numbers, b := call.do(a.p, a.q, a.k, a.b)
					want, wantB := copied(numbers, b)
					other, otherB := call.do(a.p, a.q, a.k, a.b)
					for i, n := range numbers {
						spoil(n)
						for j, x := range numbers {
							if j > i && !slices.Equal(x, want[j]) {
								t.Fatalf("%s: two numbers of a result share memory", call.name)
							}
						}
					}
					spoil(b)
					if !a.unchanged() {
						t.Fatalf("%s of %v, %v changes an argument, or gives it out", call.name, p, q)
					}
					for _, n := range a.numbers() {
						spoil(n)
					}
					spoil(a.b)
					if !equal(other, otherB, want, wantB) {
						t.Fatalf("%s of %v, %v: a result is shared", call.name, p, q)
					}
					a = newArgs(p, q, api.Nat{1, 0}, m.encode(*m.smallY))
					if again, againB := call.do(a.p, a.q, a.k, a.b); !equal(again, againB, want, wantB) {
						t.Fatalf("%s of %v, %v: what was given out is kept", call.name, p, q)
					}
				}
			}
		}
	}
}

// P0.4: a coordinate or a number that is zero may be nil or empty.
func TestNil(t *testing.T) {
	for _, m := range models {
		for _, zero := range []api.Nat{nil, {}, {0}, {0, 0, 0}} {
			for _, s := range m.at(new(big.Int)) {
				p := api.Point{X: zero, Y: fromBig(s.y)}
				got, ok := curve.Neg(m.c, p)
				yes(t, got, ok, m.neg(s), "Neg", m.Name, p)
				got, ok = curve.Mul(m.c, zero, p)
				yes(t, got, ok, nowhere, "Mul", m.Name, p)
				b, ok := curve.Encode(m.c, p)
				sameBytes(t, b, ok, m.encode(s), "Encode", m.Name, p)
			}
		}
	}
}

// P0.5: the same numbers as more than one argument.
func TestSameArgument(t *testing.T) {
	for _, m := range models {
		n := withRoom(fromBig(m.Gx))
		kept := slices.Clone(n[:cap(n)])
		p := api.Point{X: n, Y: fromBig(m.Gy)}
		got, ok := curve.Mul(m.c, n, p)
		yes(t, got, ok, m.mul(m.Gx, m.base()), "Mul", m.Name)
		got, ok = curve.Add(m.c, p, p)
		yes(t, got, ok, m.add(m.base(), m.base()), "Add", m.Name)
		if curve.On(m.c, api.Point{X: n, Y: n}) || !slices.Equal(n[:cap(n)], kept) {
			t.Fatal("On", m.Name)
		}
	}
}

// P0.5: calls at the same time do not touch each other.
func TestSameTime(t *testing.T) {
	for _, m := range models {
		p, q := m.base().point(), m.smallY.point()
		k, b := fromBig(m.P), m.encode(m.base())
		list := calls(m.c)
		got := make([][]api.Nat, len(list))
		var wait sync.WaitGroup
		for i, call := range list {
			wait.Go(func() { got[i], _ = call.do(p, q, k, b) })
		}
		wait.Wait()
		for i, call := range list {
			if want, _ := call.do(p, q, k, b); !reflect.DeepEqual(got[i], want) {
				t.Fatalf("%s: %v, want %v", call.name, got[i], want)
			}
		}
	}
}
