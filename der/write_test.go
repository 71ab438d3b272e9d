package der_test

import (
	"bytes"
	"math/rand"
	"slices"
	"testing"

	"bailey/api"
	"bailey/der"
)

// writes fails the test if Write does not return want of a node.
func writes(t *testing.T, n api.Node, want []byte) {
	t.Helper()
	got, ok := der.Write(n)
	if !ok || !bytes.Equal(got, want) {
		t.Fatalf("%v: got %d bytes, %x, %v, want %d, %x", about(n), len(got), got[:min(20, len(got))], ok, len(want), want[:min(20, len(want))])
	}
}

// writesNot fails the test if Write does not refuse a node.
func writesNot(t *testing.T, n api.Node) {
	t.Helper()
	if got, ok := der.Write(n); ok || got != nil {
		t.Fatalf("%v: got %d bytes, %v", about(n), len(got), ok)
	}
}

// P11.1: published encodings, byte by byte.
func TestWriteTexts(t *testing.T) {
	for text, n := range map[string]api.Node{
		"05 00":                               null,
		"30 00":                               seq(),
		"30 02 05 00":                         seq(null),
		"02 01 00":                            leaf(api.TagInt, 0),
		"02 02 00 80":                         leaf(api.TagInt, 0, 128),
		"03 02 00 00":                         leaf(api.TagBits, 0, 0),
		"04 00":                               leaf(api.TagBytes),
		"04 03 01 02 03":                      leaf(api.TagBytes, 1, 2, 3),
		"06 03 2a 86 48":                      leaf(api.TagOID, 0x2a, 0x86, 0x48),
		"06 06 2a 86 48 86 f7 0d":             leaf(api.TagOID, 0x2a, 0x86, 0x48, 0x86, 0xf7, 0x0d), // X.690, RSA Data Security
		"30 0a 02 01 05 30 03 03 01 00 05 00": seq(leaf(api.TagInt, 5), seq(leaf(api.TagBits, 0)), null),
		"30 0d 06 09 2a 86 48 86 f7 0d 01 01 01 05 00": seq(leaf(api.TagOID, 0x2a, 0x86, 0x48, 0x86, 0xf7, 0x0d, 1, 1, 1), null), // RFC 8017
		"30 09 06 05 2b 0e 03 02 1a 05 00":             seq(leaf(api.TagOID, 0x2b, 0x0e, 3, 2, 0x1a), null),                      // RFC 8017, SHA-1
		"30 0d 06 09 60 86 48 01 65 03 04 02 01 05 00": seq(leaf(api.TagOID, 0x60, 0x86, 0x48, 1, 0x65, 3, 4, 2, 1), null),       // RFC 8017, SHA-256
		"30 0c 30 0a 30 08 30 06 30 04 30 02 30 00":    seq(seq(seq(seq(seq(seq(seq())))))),
	} {
		writes(t, n, toBytes(text))
	}
}

// P11.1: valid nodes, and random ones, hold against another implementation.
func TestWrite(t *testing.T) {
	for _, n := range valids() {
		writes(t, n, encode(n))
		if !isValid(seq(n)) {
			continue
		}
		for _, m := range around(n, 16) {
			writes(t, m, encode(m))
		}
	}
	r := rand.New(rand.NewSource(1))
	for range 400 {
		n := tree(r, 1+r.Intn(8))
		writes(t, n, encode(n))
	}
}

// P11.1: what is not valid, alone and in others.
func TestWriteNot(t *testing.T) {
	for _, n := range invalids() {
		writesNot(t, n)
		for _, m := range around(n, 1) {
			writesNot(t, m)
		}
	}
	for _, n := range []api.Node{bush(1000), loop(1000), flat(1 << 18), deep(null, 1<<18)} {
		writesNot(t, n)
	}
}

// P11.1: the lengths at which the form changes, of nodes that have Bytes and of
// those that have Kids.
func TestWriteLengths(t *testing.T) {
	for length, head := range map[int]string{
		0: "00", 1: "01", 126: "7e", 127: "7f", 128: "81 80", 129: "81 81", 254: "81 fe", 255: "81 ff", 256: "82 01 00", 257: "82 01 01",
		1000: "82 03 e8", 32767: "82 7f ff", 32768: "82 80 00", 65279: "82 fe ff", 65280: "82 ff 00", 65531: "82 ff fb", 65532: "82 ff fc",
	} {
		n := text(length)
		writes(t, n, append(toBytes("04"+head), n.Bytes...))
	}
	for head, n := range map[string]api.Node{
		"30 00": seq(), "30 7e": flat(64), "30 7f": seq(text(125)), "30 81 80": flat(65), "30 81 fe": flat(128), "30 81 ff": seq(text(252)),
		"30 82 01 00": flat(129), "30 82 07 fe": flat(1024), "30 82 ff fc": seq(text(65528)),
	} {
		got, ok := der.Write(n)
		if !ok || !bytes.HasPrefix(got, toBytes(head)) || !bytes.Equal(got, encode(n)) {
			t.Fatalf("%s: %x, %v", head, got[:min(20, len(got))], ok)
		}
	}
	for length := range 700 {
		writes(t, text(length), encode(text(length)))
		writes(t, seq(text(length)), encode(seq(text(length))))
		writes(t, seq(null, seq(text(length), null)), encode(seq(null, seq(text(length), null))))
		writes(t, flat(length+1), encode(flat(length+1)))
	}
}

// P11.1: the longest encodings, and those of one byte more.
func TestWriteLongest(t *testing.T) {
	for _, around := range []func(api.Node) api.Node{
		func(n api.Node) api.Node { return n },
		func(n api.Node) api.Node { return seq(n) },
		func(n api.Node) api.Node { return seq(n, null) },
		func(n api.Node) api.Node { return seq(text(300), n) },
		func(n api.Node) api.Node { return seq(seq(text(128), text(128)), seq(null, seq(n)), flat(200)) },
		func(n api.Node) api.Node { return deep(n, 16) },
		func(n api.Node) api.Node { return seq(append(flat(1020).Kids, n)...) },
		func(n api.Node) api.Node { return seq(text(30000), leaf(api.TagBytes, n.Bytes[30004:]...)) },
		func(n api.Node) api.Node { return leaf(api.TagBits, append([]byte{0}, n.Bytes...)...) },
		func(n api.Node) api.Node { return leaf(api.TagInt, append([]byte{1}, n.Bytes...)...) },
		func(n api.Node) api.Node {
			return leaf(api.TagOID, append(slices.Repeat([]byte{1}, len(n.Bytes)), 1)...)
		},
	} {
		at := 65532 - (len(encode(around(text(50000)))) - 50004)
		for length := at - 3; length <= at+5; length++ {
			n := around(text(length))
			want := encode(n)
			if (len(want) <= 65536) != (length <= at) {
				t.Fatalf("%d bytes for %d", len(want), length)
			}
			if length <= at {
				writes(t, n, want)
			} else {
				writesNot(t, n)
			}
		}
	}
}

// P11.1: encodings that are far too long.
func TestWriteTooLong(t *testing.T) {
	big := make([]byte, 1<<24)
	n := seq()
	for range 1000 {
		n.Kids = append(n.Kids, leaf(api.TagBytes, big...), leaf(api.TagBits, big[:70000]...))
		n.Kids = n.Kids[:min(1023, len(n.Kids))]
	}
	for _, m := range []api.Node{leaf(api.TagBytes, big...), seq(leaf(api.TagBits, big...)), n, deep(leaf(api.TagBytes, big[:1<<17]...), 16)} {
		may(t, der.May(m), true, m)
		writesNot(t, m)
	}
}
