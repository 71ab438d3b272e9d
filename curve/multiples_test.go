package curve_test

import (
	"testing"

	"bailey/api"
	"bailey/curve"
)

// empty fails the test if Multiples yields something.
func empty(t *testing.T, c int, p api.Point) {
	t.Helper()
	all := curve.Multiples(c, p)
	if all == nil {
		t.Fatalf("Multiples of %d, %v is nil", c, p)
	}
	for range 2 {
		for q := range all {
			t.Fatalf("Multiples of %d, %v yields %v", c, p, q)
		}
	}
}

// P9.4: the multiples of points, however they are written, and far more than
// once past the point at infinity, which is its own multiple.
func TestMultiples(t *testing.T) {
	for _, m := range models {
		for _, s := range m.spots() {
			for _, p := range s.ways() {
				want, n := s, 0
				for q := range curve.Multiples(m.c, p) {
					same(t, q, want, "Multiples", m.Name, p, n)
					want = m.add(want, s)
					if n++; n == 12 {
						break
					}
				}
				if n != 12 {
					t.Fatalf("Multiples of %s, %v: %d points", m.Name, p, n)
				}
			}
		}
		n := 0
		for q := range curve.Multiples(m.c, api.Point{Inf: true, X: api.Nat{3}, Y: api.Nat{4}}) {
			same(t, q, nowhere, "Multiples", m.Name, n)
			if n++; n == 5000 {
				break
			}
		}
		if n != 5000 {
			t.Fatalf("Multiples of infinity: %d points", n)
		}
	}
}

// P9.4: many multiples are what Mul returns.
func TestMultiplesMany(t *testing.T) {
	for _, m := range models {
		s := m.mul(draw(5, m.N), m.base())
		k := uint64(0)
		want := nowhere
		for q := range curve.Multiples(m.c, s.point()) {
			k++
			want = m.add(want, s)
			same(t, q, want, "Multiples", m.Name, k)
			if k%100 == 0 {
				p, ok := curve.Mul(m.c, api.Nat{k}, s.point())
				yes(t, p, ok, want, "Mul", m.Name, k)
			}
			if k == 500 {
				break
			}
		}
	}
}

// P9.4: nothing is yielded of points that are off the curve.
func TestMultiplesOff(t *testing.T) {
	for _, m := range models {
		for _, off := range m.offs() {
			empty(t, m.c, off)
		}
	}
}

// take takes n points.
func take(c int, p api.Point, n int) (list []api.Point) {
	for q := range curve.Multiples(c, p) {
		if list = append(list, q); len(list) == n {
			break
		}
	}
	return list
}

// P0.7 and P9.4: the iterator can be left at any point, used again and nested,
// and does not see what becomes of p, or of what it has yielded.
func TestMultiplesAgain(t *testing.T) {
	for _, m := range models {
		s := m.mul(draw(6, m.N), m.base())
		var want []spot
		for fold := s; len(want) < 6; fold = m.add(fold, s) {
			want = append(want, fold)
		}
		p := s.point()
		all := curve.Multiples(m.c, p)
		p.X[0]++
		p.Y[0]++
		for n := 1; n <= 6; n++ {
			i := 0
			for q := range all {
				same(t, q, want[i], "Multiples", m.Name, n, i)
				spoil(q.X)
				spoil(q.Y)
				j := 0
				for r := range all {
					same(t, r, want[j], "Multiples, nested", m.Name, n, i, j)
					spoil(r.X)
					spoil(r.Y)
					if j++; j == n {
						break
					}
				}
				if i++; i == n {
					break
				}
			}
		}
	}
}

// P9.4: the iterator yields nothing more once it is left.
func TestMultiplesLeft(t *testing.T) {
	for _, m := range models {
		for _, s := range []spot{m.base(), nowhere} {
			for n := 1; n < 5; n++ {
				got := 0
				curve.Multiples(m.c, s.point())(func(api.Point) bool {
					got++
					return got < n
				})
				if got != n {
					t.Fatalf("%s: %d points, left at %d", m.Name, got, n)
				}
			}
		}
	}
}
