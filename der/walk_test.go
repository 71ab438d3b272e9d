package der_test

import (
	"bytes"
	"iter"
	"math/rand"
	"slices"
	"testing"

	"bailey/api"
	"bailey/der"
)

// step is what Walk yields at once.
type step struct {
	depth int
	node  api.Node
}

// steps are what Walk is to yield of n, as the chapter says it.
func steps(n api.Node) []step {
	var all []step
	var from func(n api.Node, depth int)
	from = func(n api.Node, depth int) {
		if depth > 16 || len(all) == 1024 {
			return
		}
		all = append(all, step{depth, n})
		for _, k := range n.Kids {
			from(k, depth+1)
		}
	}
	from(n, 0)
	return all
}

// taken are the first of what an iterator yields, at most so many.
func taken(it iter.Seq2[int, api.Node], most int) []step {
	var all []step
	for depth, n := range it {
		all = append(all, step{depth, n})
		if len(all) == most {
			break
		}
	}
	return all
}

// alike reports whether two steps are the same.
func alike(a, b step) bool {
	return a.depth == b.depth && equal(a.node, b.node)
}

// walks fails the test if Walk does not yield what it is to.
func walks(t *testing.T, n api.Node) {
	t.Helper()
	it := der.Walk(n)
	want := steps(n)
	for range 2 {
		if got := taken(it, -1); !slices.EqualFunc(got, want, alike) {
			t.Fatalf("%v: got %d steps, want %d", about(n), len(got), len(want))
		}
	}
}

// wild is a node of at most so many levels, valid or not, which follows from r.
func wild(r *rand.Rand, levels int) api.Node {
	n := leaf(r.Intn(300)-20, some(r.Int63(), r.Intn(4))...)
	if levels > 1 {
		for range r.Intn(5) {
			n.Kids = append(n.Kids, wild(r, levels-1-r.Intn(2)))
		}
	}
	return n
}

// P11.4: nodes of every kind, valid and not.
func TestWalk(t *testing.T) {
	walks(t, api.Node{})
	for _, n := range append(valids(), written()...) {
		walks(t, n)
		walks(t, seq(n, null, n))
	}
	r := rand.New(rand.NewSource(7))
	for i := range 300 {
		walks(t, wild(r, 1+i%6))
	}
}

// P11.4: an order that is written out.
func TestWalkOrder(t *testing.T) {
	n := seq(leaf(2, 1), seq(leaf(2, 2), seq(), leaf(2, 3)), api.Node{Tag: 77, Bytes: []byte{9}, Kids: []api.Node{leaf(2, 4), seq(leaf(2, 5))}}, leaf(2, 6))
	var depths, firsts []int
	for depth, m := range der.Walk(n) {
		depths = append(depths, depth)
		firsts = append(firsts, m.Tag)
		if len(m.Bytes) > 0 {
			firsts[len(firsts)-1] = int(m.Bytes[0])
		}
	}
	if !slices.Equal(depths, []int{0, 1, 1, 2, 2, 2, 1, 2, 2, 3, 1}) || !slices.Equal(firsts, []int{48, 1, 48, 2, 48, 3, 9, 4, 48, 5, 6}) {
		t.Fatal(depths, firsts)
	}
}

// P11.4: nodes with more levels than are shown: those at the last depth that is
// have their Kids.
func TestWalkDeep(t *testing.T) {
	for _, levels := range []int{15, 16, 17, 18, 19, 20, 40, 1000, 20000} {
		for _, n := range []api.Node{deep(null, levels), deep(text(300), levels), seq(null, deep(seq(null, text(3)), levels-2), deep(null, 5), null)} {
			walks(t, n)
			most := 0
			for depth, m := range der.Walk(n) {
				most = max(most, depth)
				if depth == 16 && levels > 18 && len(m.Kids) == 0 {
					t.Fatalf("%d levels: nothing below depth 16", levels)
				}
			}
			if most != min(16, levels-1) {
				t.Fatalf("%d levels: depth %d", levels, most)
			}
		}
	}
}

// P11.4: nodes with more nodes than are shown: the first ones have all their
// Kids.
func TestWalkLarge(t *testing.T) {
	for _, nodes := range []int{1022, 1023, 1024, 1025, 1026, 1500, 5000, 30000} {
		for _, n := range []api.Node{flat(nodes), comb(nodes), seq(flat(nodes-1), null, null), deep(flat(nodes), 10), deep(flat(nodes), 17), deep(flat(nodes), 18), seq(flat(600), flat(nodes))} {
			walks(t, n)
			count := 0
			for range der.Walk(n) {
				count++
			}
			if want := len(steps(n)); count != want || count > 1024 {
				t.Fatalf("%d nodes: %d steps, want %d", nodes, count, want)
			}
		}
	}
	walks(t, bush(12))
	walks(t, bush(16))
	walks(t, seq(append(flat(300000).Kids, seq(null, seq(text(3))))...))
	walks(t, seq(slices.Repeat([]api.Node{deep(text(2), 30)}, 2000)...))
}

// P11.4: nodes without end, or with nearly none, are shown as far as others.
func TestWalkEnds(t *testing.T) {
	for _, n := range []api.Node{loop(1), loop(2), loop(50), loop(300), bush(40), bush(500), seq(null, loop(1), text(5)), deep(loop(3), 12)} {
		want := steps(n)
		i := 0
		for depth, m := range der.Walk(n) {
			if w := want[i]; depth != w.depth || m.Tag != w.node.Tag || !bytes.Equal(m.Bytes, w.node.Bytes) || len(m.Kids) != len(w.node.Kids) {
				t.Fatalf("step %d: depth %d, %v", i, depth, about(m))
			}
			i++
		}
		if i != len(want) {
			t.Fatalf("%d steps, want %d", i, len(want))
		}
	}
}

// P11.4: an iterator that is left at any place, and used again from the start.
func TestWalkLeft(t *testing.T) {
	r := rand.New(rand.NewSource(8))
	for _, n := range []api.Node{{}, null, flat(40), deep(null, 20), comb(200), wild(r, 5), flat(1030), seq(seq(seq(null), null), seq())} {
		it := der.Walk(n)
		want := steps(n)
		for most := 1; most <= len(want); most++ {
			if got := taken(it, most); !slices.EqualFunc(got, want[:most], alike) {
				t.Fatalf("left after %d: %d steps", most, len(got))
			}
			calls := 0
			it(func(depth int, m api.Node) bool { // that it isn't called again, a loop would not show
				if calls++; calls > most {
					t.Fatalf("goes on after it was left at %d", most)
				}
				return calls < most
			})
		}
		if got := taken(it, -1); !slices.EqualFunc(got, want, alike) {
			t.Fatalf("at the end: %d steps", len(got))
		}
	}
}

// P11.4: an iterator within itself, and within another.
func TestWalkNested(t *testing.T) {
	n, other := comb(30), seq(null, seq(text(3)))
	it, in := der.Walk(n), der.Walk(other)
	var got []step
	for depth, m := range it {
		got = append(got, step{depth, m})
		if inner := taken(it, -1); !slices.EqualFunc(inner, steps(n), alike) {
			t.Fatalf("within itself: %d steps", len(inner))
		}
		if inner := taken(in, 2); !slices.EqualFunc(inner, steps(other)[:2], alike) {
			t.Fatalf("another within: %d steps", len(inner))
		}
	}
	if !slices.EqualFunc(got, steps(n), alike) {
		t.Fatalf("%d steps", len(got))
	}
}

// P11.4: the iterator yields n as it was when Walk was called, below the depths
// that it shows too.
func TestWalkState(t *testing.T) {
	for _, make := range []func() api.Node{
		func() api.Node { return seq(text(3), seq(leaf(api.TagInt, 5)), null) },
		func() api.Node { return deep(seq(text(2), seq(text(3))), 18) },
		func() api.Node { return flat(1100) },
		func() api.Node { return seq(append(flat(1024).Kids, seq(text(7), deep(text(8), 20)))...) },
	} {
		n := make()
		it := der.Walk(n)
		want := steps(make())
		spoilNode(&n)
		for range 2 {
			if got := taken(it, -1); !slices.EqualFunc(got, want, alike) {
				t.Fatalf("%d steps, want %d", len(got), len(want))
			}
			i := 0
			for depth, m := range it { // what is yielded may be written over, between two and at the end
				if !alike(step{depth, m}, want[i]) {
					t.Fatalf("step %d: %d, %v", i, depth, about(m))
				}
				spoilNode(&m)
				i++
			}
		}
	}
}
