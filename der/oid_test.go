package der_test

import (
	"bytes"
	"encoding/asn1"
	"math"
	"math/big"
	"math/rand"
	"slices"
	"testing"

	"bailey/api"
	"bailey/der"
)

// names fails the test if OID and Arcs do not lead from the arcs to the node of
// these bytes and back.
func names(t *testing.T, arcs []int, b []byte) {
	t.Helper()
	n, ok := der.OID(arcs...)
	if !ok || !equal(n, leaf(api.TagOID, b...)) || n.Kids != nil {
		t.Fatalf("OID of %v: %v, %v", arcs, about(n), ok)
	}
	may(t, der.May(n), true, n)
	if got, ok := der.Arcs(n); !ok || !slices.Equal(got, arcs) {
		t.Fatalf("Arcs of %v: %v, %v", about(n), got, ok)
	}
}

// namesNot fails the test if OID does not refuse the arcs.
func namesNot(t *testing.T, arcs []int) {
	t.Helper()
	if n, ok := der.OID(arcs...); ok || !isZero(n) {
		t.Fatalf("OID of %v: %v, %v", arcs[:min(10, len(arcs))], about(n), ok)
	}
}

// arcsNot fails the test if Arcs does not refuse the node.
func arcsNot(t *testing.T, n api.Node) {
	t.Helper()
	if arcs, ok := der.Arcs(n); ok || arcs != nil {
		t.Fatalf("Arcs of %v: %v, %v", about(n), arcs, ok)
	}
}

// P11.3: the chapter's examples of OID, and published object identifiers.
func TestOIDTexts(t *testing.T) {
	for text, arcs := range map[string][]int{
		"06 03 2a 86 48":                   {1, 2, 840},
		"06 09 2a 86 48 86 f7 0d 01 01 01": {1, 2, 840, 113549, 1, 1, 1},
		"06 07 2a 86 48 ce 3d 02 01":       {1, 2, 840, 10045, 2, 1},
		"06 08 2a 86 48 ce 3d 03 01 07":    {1, 2, 840, 10045, 3, 1, 7},
		"06 05 2b 81 04 00 22":             {1, 3, 132, 0, 34},
		"06 03 88 37 03":                   {2, 999, 3}, // X.690
		"06 01 00":                         {0, 0},
		"06 01 27":                         {0, 39},
		"06 01 28":                         {1, 0},
		"06 01 4f":                         {1, 39},
		"06 01 50":                         {2, 0},
		"06 01 7f":                         {2, 47},
		"06 02 81 00":                      {2, 48},
		"06 05 81 80 80 80 50":             {2, 1 << 28},
		"06 06 2a 81 80 80 80 00":          {1, 2, 1 << 28},
	} {
		n, ok := der.OID(arcs...)
		if !ok {
			t.Fatal(arcs)
		}
		writes(t, n, toBytes(text))
		names(t, arcs, toBytes(text)[2:])
	}
	for _, arcs := range [][]int{nil, {1}, {3, 1}, {1, 40}, {1, 2, -1}} { // the chapter's
		namesNot(t, arcs)
	}
}

// edges are arcs at the ends of ranges.
var edges = []int{
	-1 << 63, -1 << 32, -1 << 28, -81, -80, -41, -40, -2, -1, 0, 1, 2, 3, 38, 39, 40, 41, 47, 48, 79, 80, 127, 128, 255, 256, 16383, 16384, 1<<21 - 1, 1 << 21,
	1<<28 - 81, 1<<28 - 80, 1<<28 - 1, 1 << 28, 1<<28 + 1, 1<<28 + 80, 1 << 31, 1 << 32, 1<<32 + 1, 1 << 35, 1<<35 + 1, 1 << 62, 1<<63 - 1,
}

// P11.3: OID of two and three arcs at the edges: each of them alone out of its
// range, or in it.
func TestOIDEdges(t *testing.T) {
	for _, first := range edges {
		for _, second := range edges {
			right := first >= 0 && first <= 2 && second >= 0 && second <= 1<<28 && (first == 2 || second < 40)
			if arcs := []int{first, second}; right {
				names(t, arcs, tail(must(asn1.Marshal(asn1.ObjectIdentifier(arcs)))))
			} else {
				namesNot(t, arcs)
			}
			for _, third := range edges {
				if arcs := []int{first, second, third}; right && third >= 0 && third <= 1<<28 {
					names(t, arcs, tail(must(asn1.Marshal(asn1.ObjectIdentifier(arcs)))))
				} else {
					namesNot(t, arcs)
				}
			}
		}
		namesNot(t, []int{first})
	}
	namesNot(t, nil)
	namesNot(t, []int{})
}

// P11.3: OID of more arcs, one of which may be out of its range.
func TestOIDMore(t *testing.T) {
	r := rand.New(rand.NewSource(4))
	for range 2000 {
		arcs := []int{r.Intn(3), r.Intn(40)}
		if arcs[0] == 2 {
			arcs[1] = r.Intn(1 << r.Intn(29))
		}
		for range r.Intn(12) {
			arcs = append(arcs, r.Intn(1<<r.Intn(29)+1))
		}
		names(t, arcs, tail(must(asn1.Marshal(asn1.ObjectIdentifier(arcs)))))
		at := r.Intn(len(arcs))
		for _, x := range []int{-1, 1<<28 + 1, math.MinInt, math.MaxInt, 1 << 32} {
			wrong := slices.Clone(arcs)
			wrong[at] = x
			namesNot(t, wrong)
		}
	}
	for _, n := range []int{1000, 70000} {
		arcs := append([]int{1, 3}, slices.Repeat([]int{1 << 28, 5}, n)...)
		names(t, arcs, append([]byte{43}, bytes.Repeat([]byte{129, 128, 128, 128, 0, 5}, n)...))
		arcs[len(arcs)-1] = -1
		namesNot(t, arcs)
	}
}

// arcsOf are the arcs of a node by the chapter's words: those for which OID
// returns it.
func arcsOf(n api.Node) ([]int, bool) {
	values, ok := base128(n.Bytes)
	if !ok || n.Tag != api.TagOID {
		return nil, false
	}
	for first := range 3 {
		arcs := []int{first, int(values[0].Int64()) - 40*first}
		for _, x := range values[1:] {
			arcs = append(arcs, int(x.Int64()))
		}
		if again, ok := der.OID(arcs...); ok && equal(n, again) {
			return arcs, true
		}
	}
	return nil, false
}

// arcs fails the test if Arcs does not return what the chapter says.
func arcs(t *testing.T, n api.Node) bool {
	t.Helper()
	want, ok := arcsOf(n)
	if !ok {
		arcsNot(t, n)
		return false
	}
	if got, ok := der.Arcs(n); !ok || !slices.Equal(got, want) {
		t.Fatalf("Arcs of %v: got %v, %v, want %v", about(n), got, ok, want)
	}
	return true
}

// P11.3: Arcs of all short Bytes.
func TestArcsBytes(t *testing.T) {
	for _, b := range texts(2, some(5, 100)...) {
		arcs(t, leaf(api.TagOID, b...))
	}
	for _, b := range texts(6, 0, 1, 80, 127, 128, 129, 255) {
		arcs(t, leaf(api.TagOID, b...))
	}
	for x := range 256 {
		if n := leaf(api.TagOID, byte(x)); arcs(t, n) != (x < 128) {
			t.Fatal(x)
		}
	}
}

// P11.3: Arcs of numbers at the edges of what an arc can be, and of numbers that
// are far too long.
func TestArcsEdges(t *testing.T) {
	var values []*big.Int
	for _, n := range []uint{7, 14, 21, 28, 31, 32, 35, 56, 62, 63, 64, 65, 70, 77, 128, 448, 700} {
		for _, d := range []int64{-81, -1, 0, 1, 5, 39, 40, 79, 80, 81, 160} {
			values = append(values, new(big.Int).Add(new(big.Int).Lsh(big.NewInt(1), n), big.NewInt(d)))
		}
	}
	for _, x := range values {
		if x.Sign() < 0 {
			continue
		}
		alone := leaf(api.TagOID, toBase128([]*big.Int{x})...)
		if got := arcs(t, alone); got != (x.Cmp(big.NewInt(1<<28+80)) <= 0) {
			t.Fatalf("the first number %v: %v", x, got)
		}
		for _, first := range []int64{0, 42, 79, 80, 1<<28 + 80} {
			small := big.NewInt(first)
			for _, all := range [][]*big.Int{{small, x}, {small, x, small}, {small, big.NewInt(7), x}} {
				n := leaf(api.TagOID, toBase128(all)...)
				last := len(all) == 3 && all[2] == small && first > 1<<28
				if got := arcs(t, n); got != (x.Cmp(big.NewInt(1<<28)) <= 0 && !last) {
					t.Fatalf("%v: %v", all, got)
				}
			}
		}
	}
	arcsNot(t, leaf(api.TagOID, append(bytes.Repeat([]byte{129}, 1<<20), 1)...))
}

// P11.3: Arcs of nodes of other tags, and of nodes that are not valid.
func TestArcsNot(t *testing.T) {
	all := append(invalids(), seq(leaf(api.TagOID, 42)), loop(1), bush(64))
	for _, tag := range append(tags, wrongTags...) {
		for _, b := range [][]byte{nil, {}, {0}, {42, 3}, {127}, {0x2a, 0x86, 0x48}} {
			n := leaf(tag, b...)
			if tag != api.TagOID {
				all = append(all, n)
			}
			n.Kids = []api.Node{null}
			all = append(all, n)
		}
	}
	for _, n := range all {
		arcsNot(t, n)
	}
	n := api.Node{Tag: api.TagOID, Bytes: []byte{42}, Kids: []api.Node{}}
	if got, ok := der.Arcs(n); !ok || !slices.Equal(got, []int{1, 2}) {
		t.Fatalf("Arcs with Kids that are none: %v, %v", got, ok)
	}
}
