package check

import (
	"iter"

	"taproot/api"
	"taproot/node"
	"taproot/pager"
)

// spot is where a page of a tree is met.
type spot struct {
	id    uint32
	level int // that of the root is 1
	node  node.Node
}

// spots are a tree's, in the order of layer 13's Pages; an error ends them. A page to which several lead is met as often.
func spots(p *pager.Pager, root uint32) iter.Seq2[spot, api.Errno] {
	return func(yield func(spot, api.Errno) bool) {
		switch {
		case p == nil:
			yield(spot{}, api.ErrNil)
		case root != 0:
			below(p, spot{id: root, level: 1}, yield)
		}
	}
}

// below tells a page, and all below it. Has the row to go on?
func below(p *pager.Pager, x spot, yield func(spot, api.Errno) bool) bool {
	var e api.Errno
	x.node, e = load(p, x)
	if !yield(x, e) || e != api.OK {
		return false
	}
	for _, k := range x.node.Kids {
		if !below(p, spot{id: k.Page, level: x.level + 1}, yield) {
			return false
		}
	}
	return true
}

// load is the node that is met. A tree that leads back into itself ends all the same: it is too deep.
func load(p *pager.Pager, x spot) (node.Node, api.Errno) {
	if x.level > api.MaxDepth {
		return node.Node{}, api.ErrPage
	}
	f, e := p.Load(x.id)
	if e != api.OK {
		return node.Node{}, e
	}
	return node.Of(f)
}
