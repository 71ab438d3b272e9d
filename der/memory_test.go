package der_test

import (
	"bytes"
	"slices"
	"sync"
	"testing"

	"bailey/api"
	"bailey/der"
)

// room is a with spare capacity, in which no call may write.
func room[T any](a []T, spare ...T) []T {
	return slices.Concat(a, spare)[:len(a)]
}

// roomy is n in new memory, with spare capacity everywhere.
func roomy(n api.Node) api.Node {
	n.Bytes = room(n.Bytes, 7, 7, 7, 7)
	n.Kids = room(n.Kids, leaf(9, 9), leaf(8, 8))
	for i := range n.Kids {
		n.Kids[i] = roomy(n.Kids[i])
	}
	return n
}

// whole is n in new memory, as far as its capacity reaches.
func whole(n api.Node) api.Node {
	n.Bytes = bytes.Clone(n.Bytes[:cap(n.Bytes)])
	n.Kids = slices.Clone(n.Kids[:cap(n.Kids)])
	for i := range n.Kids {
		n.Kids[i] = whole(n.Kids[i])
	}
	return n
}

// spoil writes over bytes and their spare capacity: something else each time.
func spoil(b []byte) {
	for i := range b[:cap(b)] {
		b[:cap(b)][i] += 0x5b
	}
}

// spoilNode writes over all that a node has, and its spare capacity.
func spoilNode(n *api.Node) {
	spoil(n.Bytes)
	kids := n.Kids[:cap(n.Kids)]
	for i := range kids {
		spoilNode(&kids[i])
		kids[i] = leaf(3, 3)
	}
	n.Tag++
}

// samples are nodes of every kind, valid and not, that are not large.
func samples() []api.Node {
	return append(written()[:60], leaf(api.TagInt, 0, 0), leaf(api.TagOID, 128), seq(seq(leaf(77, 1, 2)), null), deep(text(5), 18), flat(1025), api.Node{})
}

// lists are the places of all Bytes and Kids of a node.
func lists(n api.Node) (b []*byte, kids []*api.Node) {
	if cap(n.Bytes) > 0 {
		b = append(b, &n.Bytes[:1][0])
	}
	if cap(n.Kids) > 0 {
		kids = append(kids, &n.Kids[:1][0])
	}
	for _, k := range n.Kids {
		moreBytes, moreKids := lists(k)
		b, kids = append(b, moreBytes...), append(kids, moreKids...)
	}
	return b, kids
}

// P0.3, P11.1 to P11.4: no call changes its arguments, nor their spare capacity.
func TestArguments(t *testing.T) {
	for _, n := range samples() {
		arg := roomy(n)
		want := whole(arg)
		der.May(arg)
		der.Write(arg)
		der.Nat(arg)
		der.Arcs(arg)
		for _, m := range der.Walk(arg) {
			spoilNode(&m)
		}
		if !equal(whole(arg), want) {
			t.Fatalf("%v is changed", about(n))
		}
		b := room(append(encode(leaf(api.TagSeq, encode(seq(text(3)))...)), 1), 7, 7, 7)
		before := bytes.Clone(b[:cap(b)])
		der.Read(b)
		if !bytes.Equal(b[:cap(b)], before) {
			t.Fatal("Read changes its argument")
		}
	}
	arcs, a := room([]int{2, 7, 1 << 20}, 7, 7), room(api.Nat{1 << 63, 5, 0}, 7, 7)
	wantArcs, wantA := slices.Clone(arcs[:cap(arcs)]), slices.Clone(a[:cap(a)])
	der.OID(arcs...)
	der.Int(a)
	if !slices.Equal(arcs[:cap(arcs)], wantArcs) || !slices.Equal(a[:cap(a)], wantA) {
		t.Fatal(arcs, a)
	}
}

// P0.3: results share no memory with arguments, with other results, or within
// themselves.
func TestResults(t *testing.T) {
	for _, n := range samples() {
		arg := roomy(n)
		first, ok := der.Write(arg)
		second, _ := der.Write(arg)
		spoil(second)
		if spoilNode(&arg); ok && !bytes.Equal(first, encode(n)) {
			t.Fatalf("Write of %v shares", about(n))
		}
		if !ok {
			continue
		}
		b := encode(n)
		one, _, _ := der.Read(b)
		two, _, _ := der.Read(b)
		spoil(b)
		if spoilNode(&two); !equal(one, n) {
			t.Fatalf("Read of %v shares", about(n))
		}
		texts, kids := lists(one)
		if len(unique(texts)) != len(texts) || len(unique(kids)) != len(kids) {
			t.Fatalf("Read of %v shares within itself", about(n))
		}
	}
}

// unique are the places without repeats.
func unique[T any](places []*T) map[*T]int {
	m := map[*T]int{}
	for _, p := range places {
		m[p]++
	}
	return m
}

// P0.3: what Walk yields shares no memory, with what it yields later either.
func TestWalkResults(t *testing.T) {
	for _, n := range samples() {
		arg := roomy(n)
		texts, kids := lists(arg)
		for range 2 {
			for _, m := range der.Walk(arg) {
				moreTexts, moreKids := lists(m)
				texts, kids = append(texts, moreTexts...), append(kids, moreKids...)
			}
		}
		if len(unique(texts)) != len(texts) || len(unique(kids)) != len(kids) {
			t.Fatalf("Walk of %v shares", about(n))
		}
	}
}

// P0.3: results of the calls on values share no memory.
func TestValues(t *testing.T) {
	a := api.Nat{1 << 40, 3}
	one, two := der.Int(a), der.Int(a)
	spoil(two.Bytes)
	a[0] = 0
	if !bytes.Equal(one.Bytes, []byte{3, 0, 0, 1, 0, 0, 0, 0, 0}) {
		t.Fatal(one)
	}
	x, _ := der.Nat(one)
	y, _ := der.Nat(one)
	spoil(one.Bytes)
	for i := range y[:cap(y)] {
		y[:cap(y)][i] = 9
	}
	if !slices.Equal(x, api.Nat{1 << 40, 3}) {
		t.Fatal(x)
	}
	arcs := []int{1, 2, 840}
	n, _ := der.OID(arcs...)
	m, _ := der.OID(arcs...)
	spoil(m.Bytes)
	arcs[2] = 5
	if !bytes.Equal(n.Bytes, []byte{0x2a, 0x86, 0x48}) {
		t.Fatal(n)
	}
	p, _ := der.Arcs(n)
	q, _ := der.Arcs(n)
	spoil(n.Bytes)
	for i := range q[:cap(q)] {
		q[:cap(q)][i] = 9
	}
	if !slices.Equal(p, []int{1, 2, 840}) {
		t.Fatal(p)
	}
}

// P0.3: one slice in many places of an argument.
func TestShared(t *testing.T) {
	b := []byte{1, 2, 3}
	kids := []api.Node{leaf(api.TagBytes, b...), null}
	kids[0].Bytes = b
	n := seq(seq(kids...), seq(kids...), api.Node{Tag: api.TagBytes, Bytes: b})
	writes(t, n, encode(n))
	walks(t, n)
	var places []*byte
	for _, m := range der.Walk(n) {
		more, _ := lists(m)
		places = append(places, more...)
	}
	if len(unique(places)) != len(places) {
		t.Fatal("Walk shares what its argument shares")
	}
}

// P0.5: calls at the same time, on the same arguments, are independent.
func TestSameTime(t *testing.T) {
	n := comb(300)
	b := encode(n)
	it := der.Walk(n)
	want := steps(n)
	var done sync.WaitGroup
	for range 8 {
		done.Go(func() {
			for range 10 {
				got, ok := der.Write(n)
				m, used, too := der.Read(b)
				if !der.May(n) || !ok || !bytes.Equal(got, b) || !too || used != len(b) || !equal(m, n) || !slices.EqualFunc(taken(it, -1), want, alike) {
					t.Error("calls at the same time")
				}
			}
		})
	}
	done.Wait()
}
