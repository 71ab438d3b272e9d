package der_test

import (
	"bytes"
	"math/rand"
	"slices"
	"testing"

	"bailey/api"
	"bailey/der"
)

// reads fails the test if Read does not return the node and the length.
func reads(t *testing.T, b []byte, want api.Node, length int) {
	t.Helper()
	got, used, ok := der.Read(b)
	if !ok || used != length || !equal(got, want) {
		t.Fatalf("%x (%d bytes): got %v, %d, %v, want %v, %d", b[:min(20, len(b))], len(b), about(got), used, ok, about(want), length)
	}
}

// readsNot fails the test if Read does not refuse b.
func readsNot(t *testing.T, b []byte) {
	t.Helper()
	if got, used, ok := der.Read(b); ok || used != 0 || !isZero(got) {
		t.Fatalf("%x (%d bytes): got %v, %d, %v", b[:min(20, len(b))], len(b), about(got), used, ok)
	}
}

// readsAs fails the test if Read does not return what another implementation
// does, and whether there is something.
func readsAs(t *testing.T, b []byte) bool {
	t.Helper()
	n, length, ok := decode(b)
	if !ok {
		readsNot(t, b)
		return false
	}
	reads(t, b, n, length)
	writes(t, n, b[:length])
	return true
}

// P11.2: the chapter's examples, and others.
func TestReadTexts(t *testing.T) {
	for _, text := range []string{
		"", "30 80", "02 02 00 01", "02 01 80", "05 01 00", "06 01 80", // the chapter's
		"00", "00 00", "02", "30", "02 00", "03 00", "06 00", "03 01", "03 01 01", "04 03 aa bb", "06 01 88", "06 02 80 01", "31 02 05 00", "30 03 05 00",
		"30 01 05", "30 03 05 00 05", "30 03 05 00 00", "30 02 05 01", "30 04 05 00", "30 02 30 01", "30 04 30 02 05", "30 02 31 00", "10 00", "24 02 04 00", "25 00",
		"01 01 ff", "0c 01 41", "13 01 41", "17 00", "a0 02 05 00", "bf 02 02 05 00", "1f 01 00", "9f 81 00 00", "45 00", "85 00", "c5 00", "ff ff ff ff",
		"05 80", "04 80 00 00", "30 80 00 00", "30 80 05 00 00 00", "24 80 04 01 41 00 00", // of the indefinite form
		"05 81 00", "04 81 01 41", "04 81 7f", "04 82 00 01 41", "04 82 00 00", "04 83 00 00 01 41", "04 84 00 00 00 01 41", "04 88 00 00 00 00 00 00 00 01 41",
		"30 81 02 05 00", "30 82 00 02 05 00", "30 03 05 81 00", "30 04 30 81 01 05", // lengths that are too long
		"04 ff", "04 84 ff ff ff ff", "04 88 ff ff ff ff ff ff ff ff", "04 88 80 00 00 00 00 00 00 00", "04 88 7f ff ff ff ff ff ff ff", "04 89 01 00 00 00 00 00 00 00 00",
		"04 81", "04 82 01", "04 82", "04 83 01 00", "30 84 7f ff ff ff 05 00", "30 88 ff ff ff ff ff ff ff fe 05 00", // that say more than there is
	} {
		readsNot(t, toBytes(text))
		readsNot(t, toBytes("30 81 fa"+text))
		if readsAs(t, toBytes(text)) {
			t.Fatalf("the other implementation reads %s", text)
		}
	}
	for text, n := range map[string]api.Node{
		"05 00": null, "30 02 05 00": seq(null), "03 02 00 00": leaf(api.TagBits, 0, 0), // the chapter's
		"02 01 00": leaf(api.TagInt, 0), "02 01 7f": leaf(api.TagInt, 127), "02 02 00 80": leaf(api.TagInt, 0, 128), "03 01 00": leaf(api.TagBits, 0),
		"04 00": leaf(api.TagBytes), "04 02 aa bb": leaf(api.TagBytes, 0xaa, 0xbb), "06 01 00": leaf(api.TagOID, 0), "06 02 08 01": leaf(api.TagOID, 8, 1), "30 00": seq(),
		"30 04 30 00 05 00": seq(seq(), null), "30 04 05 00 30 00": seq(null, seq()), "30 06 30 02 05 00 05 00": seq(seq(null), null), "30 04 30 02 30 00": seq(seq(seq())),
	} {
		reads(t, toBytes(text), n, len(toBytes(text)))
		reads(t, toBytes(text+"00"), n, len(toBytes(text)))
		reads(t, toBytes(text+text), n, len(toBytes(text)))
		reads(t, toBytes(text+"30 80"), n, len(toBytes(text)))
	}
}

// written are nodes of every kind, with encodings that are not long.
func written() []api.Node {
	all := valids()
	r := rand.New(rand.NewSource(2))
	for range 150 {
		all = append(all, tree(r, 1+r.Intn(8)))
	}
	return slices.DeleteFunc(all, func(n api.Node) bool { return len(encode(n)) > 250 })
}

// P11.2: what Write returns, with and without bytes behind it.
func TestRead(t *testing.T) {
	for i, n := range append(valids(), written()...) {
		b, ok := der.Write(n)
		if !ok {
			t.Fatalf("%v is not written", about(n))
		}
		reads(t, b, n, len(b))
		for _, behind := range [][]byte{{0}, {5, 0}, {0x30, 0x80}, {255}, some(int64(i), 300), make([]byte, 70000)} {
			reads(t, append(bytes.Clone(b), behind...), n, len(b))
		}
	}
}

// P11.2: what Write returns, cut off at every place.
func TestReadCut(t *testing.T) {
	for _, n := range written() {
		b := encode(n)
		for cut := range b {
			readsNot(t, b[:cut])
		}
	}
	b := encode(flat(1024))
	for cut := range b {
		readsNot(t, b[:cut])
	}
}

// P11.2: what Write returns, with each byte changed.
func TestReadChanged(t *testing.T) {
	count := 0
	for i, n := range written() {
		b := encode(n)
		for at := range b {
			old := b[at]
			to := []byte{old + 1, old - 1, old ^ 128, 0, 128, 129, 255, old ^ 32, some(int64(at+i), 1)[0]}
			if len(b) < 20 {
				for x := range 256 {
					to = append(to, byte(x))
				}
			}
			for _, x := range to {
				b[at] = x
				if readsAs(t, b) {
					count++
				}
				readsAs(t, append(bytes.Clone(b), 5, 0))
			}
			b[at] = old
		}
	}
	if count < 1000 {
		t.Fatalf("only %d changed ones are read", count)
	}
}

// P11.2: what Write returns, with a byte put in or taken out at each place.
func TestReadMoved(t *testing.T) {
	for _, n := range written() {
		b := encode(n)
		for at := range b {
			readsAs(t, slices.Delete(bytes.Clone(b), at, at+1))
			for _, x := range []byte{0, 1, 5, 48, 127, 128, 129, 255} {
				readsAs(t, slices.Insert(bytes.Clone(b), at, x))
			}
		}
	}
}

// P11.2: all short byte strings of the bytes that say something, and random ones.
func TestReadAny(t *testing.T) {
	for _, b := range texts(6, 0, 1, 2, 3, 4, 5, 6, 0x30, 128, 129) {
		if len(b) < 5 || b[0] == api.TagSeq || b[0] == 4 {
			readsAs(t, b)
		}
	}
	r := rand.New(rand.NewSource(3))
	likely := []byte{0, 1, 2, 3, 4, 5, 6, 7, 8, 0x30, 0x30, 0x30, 127, 128, 129, 130, 255}
	for range 100000 {
		b := make([]byte, r.Intn(30))
		for i := range b {
			b[i] = likely[r.Intn(len(likely))]
		}
		readsAs(t, append([]byte{0x30, byte(r.Intn(30))}, b...))
	}
}

// head are a tag and a length with so many bytes behind its first one.
func head(tag, length, digits int) []byte {
	if digits == 0 {
		return []byte{byte(tag), byte(length)}
	}
	b := []byte{byte(tag), byte(128 + digits)}
	for i := digits - 1; i >= 0; i-- {
		b = append(b, byte(length>>(8*i))) // 0 from the eighth one on
	}
	return b
}

// filling are the encodings of nodes, of so many bytes (not 1) in all.
func filling(length int) []byte {
	var b []byte
	if length > 1000 {
		b = encode(text(length - 500))
	}
	if (length-len(b))%2 == 1 {
		b = append(b, 2, 1, 0)
	}
	return append(b, bytes.Repeat([]byte{5, 0}, (length-len(b))/2)...)
}

// P11.2: lengths in every form, alone and below others: only the shortest one
// is read.
func TestReadLengths(t *testing.T) {
	for _, length := range []int{0, 2, 3, 5, 126, 127, 128, 129, 200, 254, 255, 256, 257, 1000, 2000, 32767, 32768, 65000} {
		for _, tag := range []int{api.TagBytes, api.TagBits, api.TagSeq} {
			contents := filling(length)
			if tag != api.TagSeq {
				contents = make([]byte, length)
			}
			shortest := 0
			for ; length>>(8*shortest) > 0 && length >= 128; shortest++ {
			}
			for digits := range 13 {
				if digits < shortest {
					continue
				}
				b := append(head(tag, length, digits), contents...)
				want := digits == shortest && (tag != api.TagBits || length > 0)
				for _, c := range [][]byte{b, append(bytes.Clone(b), 5, 0), encode(leaf(api.TagSeq, b...))} {
					if _, _, ok := der.Read(c); ok != want || readsAs(t, c) != want {
						t.Fatalf("tag %d, length %d in %d bytes: %v", tag, length, digits, ok)
					}
				}
			}
		}
	}
}

// P11.2: Kids that do not fill their sequence, or more than fill it.
func TestReadFilled(t *testing.T) {
	kids := [][]byte{{5, 0}, {2, 1, 7}, encode(text(200)), encode(seq(null, seq())), encode(seq(text(3)))}
	for _, kid := range kids {
		for _, more := range kids {
			inner := append(bytes.Clone(kid), more...)
			for length := range 250 {
				b := append(head(api.TagSeq, length, min(1, length/128)), inner...)
				if got, want := readsAs(t, b), length == 0 || length == len(kid) || length == len(inner); got != want {
					t.Fatalf("%d of %x: %v", length, inner, got)
				}
				readsAs(t, encode(leaf(api.TagSeq, b...)))
				readsAs(t, encode(leaf(api.TagSeq, append([]byte{5, 0}, b...)...)))
			}
		}
	}
}

// P11.2: the longest encoding that Write returns, and longer ones.
func TestReadLongest(t *testing.T) {
	for length := 65520; length <= 65540; length++ {
		simple := encode(leaf(api.TagBytes, make([]byte, length)...))
		for _, b := range [][]byte{simple, encode(leaf(api.TagSeq, simple...)), encode(leaf(api.TagSeq, append([]byte{5, 0}, simple...)...))} {
			if got := readsAs(t, append(b, 5, 0)); got != (len(b) <= 65536) || readsAs(t, b) != got {
				t.Fatalf("%d bytes: %v", len(b), got)
			}
		}
	}
	for _, length := range []int{1 << 17, 1 << 20, 1 << 24} {
		readsNot(t, encode(leaf(api.TagBytes, make([]byte, length)...)))
		readsNot(t, encode(leaf(api.TagSeq, bytes.Repeat([]byte{5, 0}, length/2)...)))
	}
}

// P11.2: encodings of as many nodes and levels as there can be, and of more.
func TestReadTrees(t *testing.T) {
	for nodes := 1020; nodes <= 1030; nodes++ {
		for _, n := range []api.Node{flat(nodes), comb(nodes), seq(null, flat(nodes-2))} {
			if got := readsAs(t, encode(n)); got != (nodes <= 1024) {
				t.Fatalf("%d nodes: %v", nodes, got)
			}
		}
	}
	for levels := 1; levels <= 40; levels++ {
		for _, n := range []api.Node{deep(null, levels), deep(seq(), levels), seq(null, deep(null, max(1, levels-1)))} {
			if got := readsAs(t, encode(n)); got != isValid(n) || levels > 1 && got != (levels <= 16) {
				t.Fatalf("%d levels: %v", levels, got)
			}
		}
	}
	readsNot(t, encode(flat(32000)))
	readsNot(t, encode(deep(null, 5000)))
	readsNot(t, bytes.Repeat([]byte{0x30, 0x82, 0xff, 0xff}, 1<<16))
	readsNot(t, bytes.Repeat([]byte{0x30}, 1<<20))
}

// P11.2: the encodings of what is not valid.
func TestReadNot(t *testing.T) {
	for _, n := range invalids() {
		if n.Tag < 0 || n.Tag > 255 || n.Tag&0x1f == 0x1f || n.Tag&0x20 != 0 || len(n.Kids) > 0 {
			continue
		}
		b := append(head(n.Tag, len(n.Bytes), 0), n.Bytes...)
		readsNot(t, b)
		readsNot(t, append([]byte{0x30, byte(len(b))}, b...))
		readsNot(t, append([]byte{0x30, byte(len(b) + 4), 0x05, 0x00, 0x05, 0x00}, b...))
	}
}
