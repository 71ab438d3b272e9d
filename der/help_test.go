package der_test

import (
	"bytes"
	"encoding/asn1"
	"encoding/hex"
	"math"
	"math/big"
	"math/rand"
	"slices"
	"strings"
	"testing"

	"bailey/api"
)

// null is the node that says nothing.
var null = api.Node{Tag: api.TagNull}

// tags are all tags that a valid node can have.
var tags = []int{api.TagInt, api.TagBits, api.TagBytes, api.TagNull, api.TagOID, api.TagSeq}

// wrongTags are some of the tags that no valid node has.
var wrongTags = []int{
	0, 1, 7, 10, 0x0c, 0x10, 0x1f, 0x22, 0x24, 0x2f, 0x31, 0x70, 0x80, 0x82, 0xa0, 0xb0, 0xff, 0x100 + api.TagNull, 0x100 + api.TagSeq,
	1<<32 + api.TagInt, -1, -api.TagSeq, -0x100 + api.TagOID, math.MinInt, math.MinInt + api.TagBytes, math.MaxInt,
}

// leaf is a node with these bytes.
func leaf(tag int, b ...byte) api.Node {
	return api.Node{Tag: tag, Bytes: b}
}

// seq is a sequence of these nodes.
func seq(kids ...api.Node) api.Node {
	return api.Node{Tag: api.TagSeq, Kids: kids}
}

// text is a node of n bytes.
func text(n int) api.Node {
	return leaf(api.TagBytes, some(int64(n), n)...)
}

// flat is a sequence of nulls: of so many nodes with itself.
func flat(nodes int) api.Node {
	return seq(slices.Repeat([]api.Node{null}, nodes-1)...)
}

// deep is n below sequences, of so many levels with it if it has one.
func deep(n api.Node, levels int) api.Node {
	for range levels - 1 {
		n = seq(n)
	}
	return n
}

// loop is a sequence that is its own Kid, so many times.
func loop(times int) api.Node {
	kids := make([]api.Node, times)
	for i := range kids {
		kids[i] = seq(kids...)
	}
	return kids[0]
}

// bush is a sequence with twice itself in each of so many levels.
func bush(levels int) api.Node {
	n := null
	for range levels {
		n = seq(n, n)
	}
	return n
}

// comb is a node of so many nodes and 16 levels, with Kids on all of them.
func comb(nodes int) api.Node {
	n := seq()
	left := nodes - 16
	for level := range 15 {
		more := left / (15 - level)
		left -= more
		n = seq(append(slices.Repeat([]api.Node{leaf(api.TagInt, 5)}, more/2), append([]api.Node{n}, slices.Repeat([]api.Node{null}, more-more/2)...)...)...)
	}
	return n
}

// some are n bytes that follow from the seed.
func some(seed int64, n int) []byte {
	b := make([]byte, n)
	rand.New(rand.NewSource(seed)).Read(b)
	return b
}

// toBytes are the bytes that a text says.
func toBytes(text string) []byte {
	b, err := hex.DecodeString(strings.ReplaceAll(text, " ", ""))
	if err != nil {
		panic(err)
	}
	return b
}

// texts are all byte strings of at most so many of these bytes.
func texts(most int, from ...byte) [][]byte {
	all := [][]byte{{}}
	for first := 0; most > 0; most-- {
		last := len(all)
		for _, b := range all[first:last] {
			for _, x := range from {
				all = append(all, append(bytes.Clone(b), x))
			}
		}
		first = last
	}
	return all
}

// valids are valid nodes of each tag.
func valids() []api.Node {
	return []api.Node{
		leaf(api.TagInt, 0), leaf(api.TagInt, 1), leaf(api.TagInt, 127), leaf(api.TagInt, 0, 128), leaf(api.TagInt, 0, 255), leaf(api.TagInt, 1, 0),
		leaf(api.TagInt, 127, 255), leaf(api.TagInt, 0, 128, 0), leaf(api.TagInt, append([]byte{1}, make([]byte, 300)...)...),
		leaf(api.TagBits, 0), leaf(api.TagBits, 0, 0), leaf(api.TagBits, 0, 255), leaf(api.TagBits, append([]byte{0}, some(3, 500)...)...),
		leaf(api.TagBytes), leaf(api.TagBytes, 0), leaf(api.TagBytes, 255), leaf(api.TagBytes, 0, 0), text(126), text(127), text(128), text(129),
		text(255), text(256), text(257), null,
		leaf(api.TagOID, 0), leaf(api.TagOID, 127), leaf(api.TagOID, 129, 0), leaf(api.TagOID, 255, 127), leaf(api.TagOID, 0x2a, 0x86, 0x48),
		leaf(api.TagOID, 129, 128, 0), leaf(api.TagOID, 0x2a, 129, 128, 128, 0, 5), leaf(api.TagOID, append(bytes.Repeat([]byte{255}, 40), 3)...),
		seq(), seq(null), seq(seq()), seq(seq(), null, seq(seq(null), text(3))), seq(text(200), leaf(api.TagInt, 7), leaf(api.TagBits, 0)),
		flat(1024), comb(1024), deep(null, 16), deep(seq(), 16),
	}
}

// invalids are nodes with one condition broken each, whatever is around them.
func invalids() []api.Node {
	all := []api.Node{
		{}, {Bytes: []byte{0}}, {Kids: []api.Node{null}},
		leaf(api.TagInt), leaf(api.TagInt, 128), leaf(api.TagInt, 255), leaf(api.TagInt, 0, 0), leaf(api.TagInt, 0, 127), leaf(api.TagInt, 0, 0, 128),
		leaf(api.TagInt, 0, 1, 2), leaf(api.TagInt, 128, 0), leaf(api.TagInt, 255, 255), leaf(api.TagInt, make([]byte, 70)...),
		leaf(api.TagBits), leaf(api.TagBits, 1), leaf(api.TagBits, 7, 0), leaf(api.TagBits, 8, 0), leaf(api.TagBits, 255), leaf(api.TagBits, 128, 0),
		leaf(api.TagNull, 0), leaf(api.TagNull, 5, 0), leaf(api.TagNull, 255),
		leaf(api.TagOID), leaf(api.TagOID, 128), leaf(api.TagOID, 128, 1), leaf(api.TagOID, 129), leaf(api.TagOID, 255), leaf(api.TagOID, 1, 128),
		leaf(api.TagOID, 1, 128, 1), leaf(api.TagOID, 1, 129), leaf(api.TagOID, 129, 0, 128, 0), leaf(api.TagOID, 1, 2, 255, 255),
		leaf(api.TagSeq, 0), leaf(api.TagSeq, 5, 0), {Tag: api.TagSeq, Bytes: []byte{5, 0}, Kids: []api.Node{null}},
		{Tag: api.TagInt, Bytes: []byte{1}, Kids: []api.Node{null}}, {Tag: api.TagBits, Bytes: []byte{0}, Kids: []api.Node{null}},
		{Tag: api.TagBytes, Bytes: []byte{5, 0}, Kids: []api.Node{null}}, {Tag: api.TagBytes, Kids: []api.Node{seq()}},
		{Tag: api.TagNull, Kids: []api.Node{null}}, {Tag: api.TagOID, Bytes: []byte{1}, Kids: []api.Node{null}},
		flat(1025), flat(1026), flat(3000), comb(1025), deep(null, 17), deep(seq(), 17), deep(null, 40), loop(1), loop(3), bush(10), bush(64),
	}
	for _, tag := range wrongTags {
		all = append(all, api.Node{Tag: tag}, leaf(tag, 0), leaf(tag, 1), api.Node{Tag: tag, Kids: []api.Node{null}})
	}
	return all
}

// around are n, which has so many levels, at several places in other nodes.
func around(n api.Node, levels int) []api.Node {
	all := []api.Node{seq(n), seq(null, n), seq(n, null), seq(seq(), seq(seq(null), n, text(3)), leaf(api.TagInt, 9))}
	for at := levels; at <= 16; at++ {
		all = append(all, deep(n, at-levels+1))
	}
	return all
}

// isValid reports whether n is valid: step by step, as the chapter says it.
func isValid(n api.Node) bool {
	left := 1024
	return holds(n, 16, &left)
}

// holds reports whether n is valid with at most so many levels, and nodes left.
func holds(n api.Node, levels int, left *int) bool {
	*left--
	if levels == 0 || *left < 0 || !slices.Contains(tags, n.Tag) {
		return false
	}
	if n.Tag == api.TagSeq {
		return len(n.Bytes) == 0 && !slices.ContainsFunc(n.Kids, func(k api.Node) bool { return !holds(k, levels-1, left) })
	}
	if len(n.Kids) > 0 {
		return false
	}
	switch b := n.Bytes; n.Tag {
	case api.TagInt:
		shortest, _ := asn1.Marshal(new(big.Int).SetBytes(b))
		return bytes.HasSuffix(shortest, b) && len(b) > 0 && len(tail(shortest)) == len(b)
	case api.TagBits:
		return len(b) > 0 && b[0] == 0
	case api.TagNull:
		return len(b) == 0
	case api.TagOID:
		values, ok := base128(b)
		return ok && bytes.Equal(toBase128(values), b)
	}
	return true
}

// tail are the contents of an encoding.
func tail(encoding []byte) []byte {
	var raw asn1.RawValue
	if _, err := asn1.Unmarshal(encoding, &raw); err != nil {
		panic(err)
	}
	return raw.Bytes
}

// base128 are the numbers in base 128 that b consists of, or false if it breaks
// off in one of them or has none.
func base128(b []byte) ([]*big.Int, bool) {
	var all []*big.Int
	x := new(big.Int)
	for _, digit := range b {
		x.Add(x.Lsh(x, 7), big.NewInt(int64(digit%128)))
		if digit < 128 {
			all, x = append(all, x), new(big.Int)
		}
	}
	return all, len(b) > 0 && b[len(b)-1] < 128
}

// toBase128 are the numbers in base 128, each in its shortest form.
func toBase128(values []*big.Int) []byte {
	var all []byte
	for _, x := range values {
		digits := []byte{byte(new(big.Int).Mod(x, big.NewInt(128)).Int64())}
		for x = new(big.Int).Rsh(x, 7); x.Sign() > 0; x = new(big.Int).Rsh(x, 7) {
			digits = append(digits, byte(new(big.Int).Mod(x, big.NewInt(128)).Int64())|128)
		}
		slices.Reverse(digits)
		all = append(all, digits...)
	}
	return all
}

// encode is the encoding of a valid node, however long, by another
// implementation.
func encode(n api.Node) []byte {
	contents := bytes.Clone(n.Bytes)
	for _, k := range n.Kids {
		contents = append(contents, encode(k)...)
	}
	b, err := asn1.Marshal(asn1.RawValue{Tag: n.Tag & 0x1f, IsCompound: n.Tag == api.TagSeq, Bytes: contents})
	if err != nil {
		panic(err)
	}
	return b
}

// decode is the node at the beginning of b and the length of its encoding, by
// another implementation.
func decode(b []byte) (api.Node, int, bool) {
	n, rest, ok := decodeAny(b, 60)
	if !ok || !isValid(n) || len(b)-len(rest) > 65536 {
		return api.Node{}, 0, false
	}
	return n, len(b) - len(rest), true
}

// decodeAny is the node at the beginning of b, valid or not, of not too many
// levels, and what comes behind it.
func decodeAny(b []byte, levels int) (api.Node, []byte, bool) {
	var raw asn1.RawValue
	rest, err := asn1.Unmarshal(b, &raw)
	if err != nil || levels == 0 {
		return api.Node{}, nil, false
	}
	if b[0] != api.TagSeq {
		return leaf(int(b[0]), raw.Bytes...), rest, true
	}
	n := seq()
	for in := raw.Bytes; len(in) > 0; {
		kid, behind, ok := decodeAny(in, levels-1)
		if !ok {
			return api.Node{}, nil, false
		}
		n.Kids, in = append(n.Kids, kid), behind
	}
	return n, rest, true
}

// tree is a valid node of at most so many levels, which follows from r.
func tree(r *rand.Rand, levels int) api.Node {
	b := make([]byte, r.Intn(5)*r.Intn(5)*r.Intn(5)*r.Intn(5))
	r.Read(b)
	tag := tags[r.Intn(len(tags))]
	if levels > 1 && r.Intn(3) > 0 {
		tag = api.TagSeq
	}
	switch tag {
	case api.TagInt:
		b = tail(must(asn1.Marshal(new(big.Int).SetBytes(b))))
	case api.TagBits:
		b = append([]byte{0}, b...)
	case api.TagNull:
		b = nil
	case api.TagOID:
		values, _ := base128(append(b, byte(r.Intn(128))))
		b = toBase128(values)
	case api.TagSeq:
		n := seq()
		for range r.Intn(4) * min(levels-1, 1) {
			n.Kids = append(n.Kids, tree(r, levels-1))
		}
		return n
	}
	return leaf(tag, b...)
}

// must is b, which there is.
func must(b []byte, err error) []byte {
	if err != nil {
		panic(err)
	}
	return b
}

// equal reports whether two nodes are the same.
func equal(a, b api.Node) bool {
	return a.Tag == b.Tag && bytes.Equal(a.Bytes, b.Bytes) && slices.EqualFunc(a.Kids, b.Kids, equal)
}

// isZero reports whether n is the zero Node.
func isZero(n api.Node) bool {
	return n.Tag == 0 && n.Bytes == nil && n.Kids == nil
}

// about are the first words on a node, for what a test tells.
func about(n api.Node) []any {
	return []any{"tag", n.Tag, "bytes", len(n.Bytes), n.Bytes[:min(8, len(n.Bytes))], "kids", len(n.Kids)}
}

// may fails the test if May does not say want of a node.
func may(t *testing.T, got, want bool, n api.Node) {
	t.Helper()
	if got != want {
		t.Fatalf("%v: got %v, want %v", about(n), got, want)
	}
}
