package txn

import (
	"iter"

	"taproot/api"
	"taproot/chain"
	"taproot/cursor"
	"taproot/meta"
	"taproot/node"
	"taproot/page"
	"taproot/pager"
	"taproot/tree"
)

// Row is pairs, one by one.
type Row = iter.Seq2[api.Pair, api.Errno]

// source is where pairs are read: a base, or what a transaction has made of it.
type source interface {
	tree.Space
	Long(c api.Cell) (string, []uint32, api.Errno) // the value that a cell's chain has, and the chain's pages
}

// reading is the space of a base, whose pages are there to be read alone.
type reading struct {
	pager *pager.Pager
}

// Load: the node of a page.
func (r reading) Load(id uint32) (node.Node, api.Errno) {
	f, e := r.pager.Load(id, page.Leaf, page.Branch)
	if e != api.OK {
		return node.Node{}, e
	}
	return node.Of(f)
}

// Long: a chain's value, and its pages.
func (r reading) Long(c api.Cell) (string, []uint32, api.Errno) {
	return chain.Read(r.pager, c.Chain, int(c.Long))
}

// Own: no page may be written over.
func (r reading) Own(uint32) bool { return false }

// Make: there is no new page.
func (r reading) Make(node.Node) (uint32, api.Errno) { return 0, api.ErrKind }

// Save: no page is its own.
func (r reading) Save(uint32, node.Node) api.Errno { return api.ErrKind }

// Drop: none is given up.
func (r reading) Drop(uint32) api.Errno { return api.ErrKind }

// value is a cell's, wherever it stands.
func value(in source, c api.Cell) (string, api.Errno) {
	if c.Chain == 0 {
		return c.Value, api.OK
	}
	v, _, e := in.Long(c)
	return v, e
}

// get is the value of a key.
func get(in source, root uint32, key string) (string, bool, api.Errno) {
	c, there, e := tree.Over(in, root).Get(key)
	if e != api.OK || !there {
		return "", false, e
	}
	v, e := value(in, c)
	return v, e == api.OK, e
}

// pairs are those within bounds, one way or the other.
func pairs(in source, root uint32, from, to string, down bool) Row {
	t := tree.Over(in, root)
	cells := cursor.Range(t, from, to)
	if down {
		cells = cursor.Down(t, from, to)
	}
	return cursor.Map(cells, func(c api.Cell) (api.Pair, api.Errno) {
		v, e := value(in, c)
		return api.Pair{Key: c.Key, Value: v}, e
	})
}

// wrong is a row that has an error alone.
func wrong(e api.Errno) Row {
	return func(yield func(api.Pair, api.Errno) bool) { yield(api.Pair{}, e) }
}

// View reads a base.
type View struct {
	in   reading
	root meta.Root
}

// Look: a view of a base.
func Look(p *pager.Pager, b Base) *View {
	if p == nil {
		return nil
	}
	return &View{in: reading{p}, root: b.Root}
}

// Get: a value.
func (v *View) Get(key string) (string, bool, api.Errno) {
	if v == nil {
		return "", false, api.ErrNil
	}
	return get(v.in, v.root.Data, key)
}

// within are the pairs within bounds, one way or the other.
func (v *View) within(from, to string, down bool) Row {
	if v == nil {
		return wrong(api.ErrNil)
	}
	return pairs(v.in, v.root.Data, from, to, down)
}

// Range: pairs, rising.
func (v *View) Range(from, to string) iter.Seq2[api.Pair, api.Errno] {
	return v.within(from, to, false)
}

// Down: pairs, falling.
func (v *View) Down(from, to string) iter.Seq2[api.Pair, api.Errno] { return v.within(from, to, true) }

// Tx: the base's number.
func (v *View) Tx() uint64 {
	if v == nil {
		return 0
	}
	return v.root.Tx
}
