package der

import (
	"iter"
	"slices"

	"bailey/api"
)

const (
	// maxDepth is the greatest depth at which Walk shows nodes.
	maxDepth = 16
	// maxHidden is the greatest number of nodes that Walk keeps below those that
	// it shows and their Kids. There may be no end of them, as in a node that is
	// its own Kid.
	maxHidden = 1 << 18
)

// Walk returns an iterator over n and the nodes below it, each before its Kids,
// with their depths.
func Walk(n api.Node) iter.Seq2[int, api.Node] {
	kept := keep(n)
	return func(yield func(int, api.Node) bool) {
		left := api.MaxTree
		for depth, m := range below(kept, 0) {
			own([]*api.Node{&m})
			if left--; !yield(depth, m) || left == 0 {
				return
			}
		}
	}
}

// below returns an iterator over n, which is at this depth, and the nodes below
// it down to maxDepth, each before its Kids. They are not in new memory.
func below(n api.Node, depth int) iter.Seq2[int, api.Node] {
	return func(yield func(int, api.Node) bool) {
		if !yield(depth, n) || depth == maxDepth {
			return
		}
		for _, kid := range n.Kids {
			for d, m := range below(kid, depth+1) {
				if !yield(d, m) {
					return
				}
			}
		}
	}
}

// keep returns n in new memory, as the caller may change it later: the nodes
// that Walk shows, their Kids, and what is below these, or nothing of that if it
// is too much.
func keep(n api.Node) api.Node {
	shown := 0
	var hidden []*api.Node
	var show func(m *api.Node, depth int)
	show = func(m *api.Node, depth int) {
		if shown == api.MaxTree || depth > maxDepth {
			hidden = append(hidden, m)
			return
		}
		shown++
		m.Bytes, m.Kids = slices.Clone(m.Bytes), slices.Clone(m.Kids)
		for i := range m.Kids {
			show(&m.Kids[i], depth+1)
		}
	}
	show(&n, 0)
	if !canKeep(hidden) {
		for _, m := range hidden {
			m.Kids = nil
		}
	}
	own(hidden)
	return n
}

// canKeep reports whether there are at most maxHidden nodes below these.
func canKeep(nodes []*api.Node) bool {
	most := len(nodes) + maxHidden
	for i := 0; i < len(nodes); i++ {
		kids := nodes[i].Kids
		if len(kids) > most-len(nodes) {
			return false
		}
		for k := range kids {
			nodes = append(nodes, &kids[k])
		}
	}
	return true
}

// own puts what the nodes have into new memory, and what is below them.
func own(nodes []*api.Node) {
	for i := 0; i < len(nodes); i++ {
		m := nodes[i]
		m.Bytes, m.Kids = slices.Clone(m.Bytes), slices.Clone(m.Kids)
		for k := range m.Kids {
			nodes = append(nodes, &m.Kids[k])
		}
	}
}
