package der_test

import (
	"math/rand"
	"slices"
	"testing"

	"bailey/api"
	"bailey/der"
)

// P11.1: valid nodes, alone and in others.
func TestMay(t *testing.T) {
	for _, n := range valids() {
		may(t, der.May(n), true, n)
	}
	for _, n := range valids()[:30] {
		for _, m := range around(n, 1) {
			may(t, der.May(m), isValid(m), m)
			may(t, der.May(m), true, m)
		}
	}
}

// P11.1: nodes with one condition broken, alone and at any depth of others.
func TestMayNot(t *testing.T) {
	for _, n := range invalids() {
		may(t, der.May(n), false, n)
		for _, m := range around(n, 1) {
			may(t, der.May(m), false, m)
		}
	}
}

// P11.1: random nodes, and with each of their nodes made another.
func TestMayRandom(t *testing.T) {
	r := rand.New(rand.NewSource(11))
	bad := invalids()
	for range 300 {
		n := tree(r, 1+r.Intn(7))
		may(t, der.May(n), isValid(n), n)
		for at := &n; ; {
			old := *at
			*at = bad[r.Intn(len(bad))]
			may(t, der.May(n), false, n)
			*at = old
			if len(at.Kids) == 0 {
				break
			}
			at = &at.Kids[r.Intn(len(at.Kids))]
		}
	}
}

// P11.1: the tags, with Bytes and Kids or without.
func TestMayTags(t *testing.T) {
	for tag := -300; tag <= 600; tag++ {
		for _, n := range []api.Node{{Tag: tag}, leaf(tag, 0), leaf(tag, 1), leaf(tag, 128), leaf(tag, 0, 128), {Tag: tag, Kids: []api.Node{null}}, {Tag: tag, Bytes: []byte{0}, Kids: []api.Node{null}}} {
			may(t, der.May(n), isValid(n), n)
		}
	}
}

// P11.1: all short Bytes of each tag, and longer ones of the bytes at the edges.
func TestMayBytes(t *testing.T) {
	every := make([]byte, 256)
	for i := range every {
		every[i] = byte(i)
	}
	for _, tag := range tags {
		for _, b := range append(texts(2, every...), texts(5, 0, 1, 127, 128, 129, 255)...) {
			n := leaf(tag, b...)
			may(t, der.May(n), isValid(n), n)
		}
	}
}

// P11.1: long Bytes of each tag.
func TestMayLong(t *testing.T) {
	for _, n := range []int{1000, 65535, 65536, 65537, 200000} {
		b := slices.Repeat([]byte{129}, n)
		for _, tag := range tags {
			for _, first := range []byte{0, 1, 127, 128, 129} {
				for _, last := range []byte{0, 127, 128, 255} {
					b[0], b[n-1] = first, last
					want := tag == api.TagBytes || tag == api.TagBits && first == 0 || tag == api.TagInt && first < 128 ||
						tag == api.TagOID && first != 128 && last < 128
					may(t, der.May(leaf(tag, b...)), want, leaf(tag, b...))
				}
			}
		}
	}
}

// P11.1: the number of nodes, in nodes of every shape.
func TestMayNodes(t *testing.T) {
	for nodes := 1000; nodes <= 1050; nodes++ {
		for i, n := range []api.Node{
			flat(nodes), comb(nodes), seq(flat(nodes - 1)), seq(append([]api.Node{flat(nodes - 500)}, flat(500).Kids...)...),
			seq(append(flat(500).Kids, flat(nodes-500))...), seq(flat(300), flat(nodes-600), flat(299)), seq(seq(seq(flat(200)), flat(nodes-204)), null),
			deep(flat(nodes-14), 15), seq(deep(flat(nodes-500), 14), flat(486)),
		} {
			if got := der.May(n); got != (nodes <= 1024) || got != isValid(n) {
				t.Fatalf("%d nodes, shape %d: %v", nodes, i, got)
			}
		}
	}
	for _, nodes := range []int{5000, 100000, 1 << 18} {
		may(t, der.May(flat(nodes)), false, flat(nodes))
		may(t, der.May(seq(null, flat(nodes))), false, flat(nodes))
	}
}

// P11.1: the number of levels, on the left, in the middle and on the right.
func TestMayLevels(t *testing.T) {
	for levels := 1; levels <= 40; levels++ {
		for i, n := range []api.Node{
			deep(null, levels), deep(seq(), levels), deep(text(500), levels), seq(deep(null, levels-1), null), seq(null, null, deep(null, levels-1)),
			seq(null, deep(seq(), levels-1), deep(null, 3)), seq(deep(null, levels-1), deep(null, levels-1), deep(null, levels-1)),
		} {
			if i >= 3 && levels < 5 {
				continue
			}
			may(t, der.May(n), levels <= 16, n)
		}
	}
	may(t, der.May(deep(null, 1<<20)), false, seq())
}

// P11.1: nodes without end, or with nearly none.
func TestMayEnds(t *testing.T) {
	for _, n := range []api.Node{loop(1), loop(2), loop(1000), loop(2000), seq(null, loop(1)), bush(16), bush(64), bush(1000)} {
		may(t, der.May(n), false, n)
	}
	for levels := range 17 {
		may(t, der.May(bush(levels)), levels <= 9, bush(levels))
	}
}

// P11.1: nil and empty slices are the same.
func TestMayEmpty(t *testing.T) {
	for _, tag := range tags {
		for _, b := range [][]byte{nil, {}, {0}} {
			for _, kids := range [][]api.Node{nil, {}, make([]api.Node, 0, 5)} {
				n := api.Node{Tag: tag, Bytes: b, Kids: kids}
				may(t, der.May(n), isValid(n), n)
				may(t, der.May(n), isValid(leaf(tag, b...)), n)
			}
		}
	}
}
