package tree

import (
	"taproot/api"
	"taproot/node"
	"taproot/slots"
)

// settle puts n into the place of the way's leaf, and changes what is above as far as it has to.
func (t *Tree[S]) settle(path []step, n node.Node) (e api.Errno) {
	defer func() {
		if recover() != nil {
			e = api.ErrArg
		}
	}()
	if len(path) == 0 {
		t.Root, e = t.In.Make(n)
		return e
	}
	for len(path) > 1 {
		above := path[len(path)-2]
		parent, e := t.under(above, n)
		if e != api.OK || node.Same(parent, above.n) {
			return e
		}
		path, n = path[:len(path)-1], parent
	}
	return t.top(n)
}

// top puts n into the root's place: the tree may have a level more then, or one less.
func (t *Tree[S]) top(n node.Node) api.Errno {
	root, e := t.Root, api.OK
	switch {
	case bare(n):
		root, e = 0, t.In.Drop(t.Root)
	case !n.Leaf && len(n.Kids) == 1:
		root, e = n.Kids[0].Page, t.In.Drop(t.Root)
	case !n.Fits():
		n, e = t.split(step{n: over(t.Root)}, n)
		if e == api.OK {
			root, e = t.In.Make(n)
		}
	default:
		root, e = t.replace(t.Root, n)
	}
	if e == api.OK {
		t.Root = root
	}
	return e
}

// over is a branch whose only kid is that page.
func over(id uint32) node.Node { return node.Node{Kids: []slots.Kid{{Page: id}}} }

// under is a branch, once n stands for the kid by which the way goes on.
func (t *Tree[S]) under(s step, n node.Node) (node.Node, api.Errno) {
	switch {
	case bare(n):
		return s.n.Remove(s.at), t.In.Drop(s.kid())
	case !n.Fits():
		return t.split(s, n)
	case n.Thin() && len(s.n.Kids) > 1:
		return t.fatten(s, n)
	}
	return t.turn(s, n)
}

// turn puts n into the kid's place as it is.
func (t *Tree[S]) turn(s step, n node.Node) (node.Node, api.Errno) {
	id, e := t.replace(s.kid(), n)
	return s.n.Turn(s.at, id), e
}

// split puts n, which doesn't fit, into the kid's place and into a new page.
func (t *Tree[S]) split(s step, n node.Node) (node.Node, api.Errno) {
	a, key, b := n.Split()
	turned, e := t.turn(s, a)
	if e != api.OK {
		return node.Node{}, e
	}
	id, e := t.In.Make(b)
	return turned.Insert(slots.Kid{Key: key, Page: id}), e
}

// fatten puts n, which is thin, into one page with what is beside it; or takes from that, if it is too much for one page.
func (t *Tree[S]) fatten(s step, n node.Node) (node.Node, api.Errno) {
	left, right := s.beside()
	other := left
	if other == s.at {
		other = right
	}
	m, e := t.load(s.n.Kids[other].Page)
	if e != api.OK {
		return node.Node{}, e
	}
	a, b := n, m
	if other == left {
		a, b = m, n
	}
	both := node.Join(a, s.n.Kids[right].Key, b)
	if both.Fits() {
		return t.join(s, both)
	}
	a, key, b := both.Split()
	// A longer key may be too much for the branch, and without a cell more no branch is to be split.
	if !s.n.Remove(right).Insert(slots.Kid{Key: key}).Fits() {
		return t.turn(s, n)
	}
	return t.share(s, a, key, b)
}

// beside are the places of the kid by which the way goes on, and of one beside it, rising.
func (s step) beside() (int, int) {
	if s.at+1 < len(s.n.Kids) {
		return s.at, s.at + 1
	}
	return s.at - 1, s.at
}

// join puts one node into the place of two kids.
func (t *Tree[S]) join(s step, both node.Node) (node.Node, api.Errno) {
	left, right := s.beside()
	stays, goes := s.n.Kids[left].Page, s.n.Kids[right].Page
	if !t.In.Own(stays) {
		stays, goes = goes, stays
	}
	id, e := t.replace(stays, both)
	if e == api.OK {
		e = t.In.Drop(goes)
	}
	return s.n.Remove(right).Turn(left, id), e
}

// share puts two nodes, and the key between, into the places of two kids.
func (t *Tree[S]) share(s step, a node.Node, key string, b node.Node) (node.Node, api.Errno) {
	left, right := s.beside()
	first, e := t.replace(s.n.Kids[left].Page, a)
	if e != api.OK {
		return node.Node{}, e
	}
	second, e := t.replace(s.n.Kids[right].Page, b)
	return s.n.Remove(right).Turn(left, first).Insert(slots.Kid{Key: key, Page: second}), e
}

// replace puts n into a page that is the space's own, or else into a new one instead of it.
func (t *Tree[S]) replace(id uint32, n node.Node) (uint32, api.Errno) {
	if t.In.Own(id) {
		return id, t.In.Save(id, n)
	}
	made, e := t.In.Make(n)
	if e == api.OK {
		e = t.In.Drop(id)
	}
	return made, e
}
