package tree

import (
	"iter"
	"slices"

	"taproot/api"
	"taproot/node"
)

// firstPage is the first one that a space in memory has.
const firstPage = 2

// Memory is a space in memory.
type Memory struct {
	nodes  map[uint32]node.Node
	made   uint32 // how many pages were made
	frozen uint32 // how many of them, the first ones, aren't its own any more
}

// New: an empty one.
func New() *Memory { return &Memory{nodes: map[uint32]node.Node{}} }

// copied is a node that shares nothing with this one.
func copied(n node.Node) node.Node {
	return node.Node{Leaf: n.Leaf, Cells: slices.Clone(n.Cells), Kids: slices.Clone(n.Kids)}
}

// has: is the page there?
func (m *Memory) has(id uint32) bool {
	_, there := m.nodes[id]
	return there
}

// Load: the node of a page.
func (m *Memory) Load(id uint32) (node.Node, api.Errno) {
	switch {
	case m == nil:
		return node.Node{}, api.ErrNil
	case !m.has(id):
		return node.Node{}, api.ErrPage
	}
	return copied(m.nodes[id]), api.OK
}

// Own: may it be written over?
func (m *Memory) Own(id uint32) bool {
	return m != nil && m.has(id) && id-firstPage >= m.frozen
}

// Make: a new page.
func (m *Memory) Make(n node.Node) (uint32, api.Errno) {
	if m == nil {
		return 0, api.ErrNil
	}
	if m.nodes == nil {
		m.nodes = map[uint32]node.Node{}
	}
	id := firstPage + m.made
	m.nodes[id] = copied(n)
	m.made++
	return id, api.OK
}

// Save: a page of its own.
func (m *Memory) Save(id uint32, n node.Node) api.Errno {
	switch {
	case m == nil:
		return api.ErrNil
	case !m.has(id):
		return api.ErrPage
	case !m.Own(id):
		return api.ErrKind
	}
	m.nodes[id] = copied(n)
	return api.OK
}

// Drop: a page is given up.
func (m *Memory) Drop(id uint32) api.Errno {
	switch {
	case m == nil:
		return api.ErrNil
	case !m.has(id):
		return api.ErrPage
	case m.Own(id):
		delete(m.nodes, id)
	}
	return api.OK
}

// Freeze: no page is its own any more.
func (m *Memory) Freeze() {
	if m != nil {
		m.frozen = m.made
	}
}

// Pages: all that are there. They are looked for one by one, for they may be changed while they are gone through.
func (m *Memory) Pages() iter.Seq2[uint32, node.Node] {
	return func(yield func(uint32, node.Node) bool) {
		if m == nil {
			return
		}
		for at := uint32(0); at < m.made; at++ {
			id := firstPage + at
			if m.has(id) && !yield(id, copied(m.nodes[id])) {
				return
			}
		}
	}
}
