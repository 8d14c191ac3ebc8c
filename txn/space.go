package txn

import (
	"cmp"
	"maps"
	"slices"

	"taproot/api"
	"taproot/chain"
	"taproot/ledger"
	"taproot/meta"
	"taproot/node"
	"taproot/page"
	"taproot/pool"
)

// long is a value that stands in a chain, and the chain's pages.
type long struct {
	value string
	ids   []uint32
}

// space is a transaction's: its own pages wait till all are saved, all others are read of the base.
type space struct {
	reading
	pool  *pool.Pool
	nodes map[uint32]node.Node // its own pages of the tree
	longs map[uint32]long      // its own chains, by their first pages
	gone  []uint32             // pages of the base's that were given up
}

// Load: the node of a page.
func (s *space) Load(id uint32) (node.Node, api.Errno) {
	if n, own := s.nodes[id]; own {
		return n, api.OK
	}
	return s.reading.Load(id)
}

// Long: a chain's value, and its pages.
func (s *space) Long(c api.Cell) (string, []uint32, api.Errno) {
	if l, own := s.longs[c.Chain]; own {
		return l.value, l.ids, api.OK
	}
	return s.reading.Long(c)
}

// Own: was the page made here?
func (s *space) Own(id uint32) bool {
	_, own := s.nodes[id]
	return own
}

// Make: a new page.
func (s *space) Make(n node.Node) (uint32, api.Errno) {
	id, e := s.pool.Take()
	if e != api.OK {
		return 0, e
	}
	s.nodes[id] = n
	return id, api.OK
}

// Save: a page of its own.
func (s *space) Save(id uint32, n node.Node) api.Errno {
	s.nodes[id] = n
	return api.OK
}

// Drop: a page is given up. One of the base's stays as it is: the base must last till the root is written, and longer if somebody reads it.
func (s *space) Drop(id uint32) api.Errno {
	if !s.Own(id) {
		s.gone = append(s.gone, id)
		return api.OK
	}
	delete(s.nodes, id)
	return s.pool.Give(id)
}

// cell is a pair's, with a chain for what is too long for it.
func (s *space) cell(key, value string) (api.Cell, api.Errno) {
	if len(value) <= api.MaxInline {
		return api.Cell{Key: key, Value: value}, api.OK
	}
	ids := make([]uint32, chain.Need(len(value)))
	for i := range ids {
		id, e := s.pool.Take()
		if e != api.OK {
			return api.Cell{}, e
		}
		ids[i] = id
	}
	s.longs[ids[0]] = long{value, ids}
	return api.Cell{Key: key, Chain: ids[0], Long: uint32(len(value))}, api.OK
}

// let gives up a cell's chain, if it has one.
func (s *space) let(c api.Cell) api.Errno {
	if c.Chain == 0 {
		return api.OK
	}
	_, ids, e := s.Long(c)
	if e != api.OK {
		return e
	}
	if _, own := s.longs[c.Chain]; !own {
		s.gone = append(s.gone, ids...)
		return api.OK
	}
	delete(s.longs, c.Chain)
	for _, id := range ids {
		if e := s.pool.Give(id); e != api.OK {
			return e
		}
	}
	return api.OK
}

// changed: has it pages of its own, or was one of the base's given up?
func (s *space) changed() bool {
	for range s.pool.Taken() {
		return true
	}
	return len(s.gone) > 0
}

// entries are those of the base that stay, and one of each page that nobody needs any more from that transaction on.
func (s *space) entries(b Base, tx uint64) []ledger.Entry {
	taken := pool.Of(slices.Collect(s.pool.Taken())...)
	known := pool.Of[uint32]()
	var l []ledger.Entry
	for _, x := range b.Free {
		known.Add(x.Page)
		if !taken.Has(x.Page) {
			l = append(l, x)
		}
	}
	for id := range s.pool.Free() {
		if !known.Has(id) {
			l = append(l, ledger.Entry{Tx: tx, Page: id})
		}
	}
	for _, id := range slices.Concat(s.gone, b.Pages) {
		l = append(l, ledger.Entry{Tx: tx, Page: id})
	}
	return ledger.Sort(l)
}

// frames are its own pages', in the order of their numbers.
func (s *space) frames(tx uint64) ([]page.Frame, api.Errno) {
	var l []page.Frame
	for _, id := range slices.Sorted(maps.Keys(s.nodes)) {
		f, e := s.nodes[id].Frame(id, tx)
		if e != api.OK {
			return nil, e
		}
		l = append(l, f)
	}
	for _, first := range slices.Sorted(maps.Keys(s.longs)) {
		x := s.longs[first]
		some, e := chain.Frames(x.ids, tx, x.value)
		if e != api.OK {
			return nil, e
		}
		l = append(l, some...)
	}
	slices.SortFunc(l, func(a, b page.Frame) int { return cmp.Compare(a.ID, b.ID) })
	return l, api.OK
}

// write writes frames, and, once these last, the root that leads to them.
func (s *space) write(l []page.Frame, r meta.Root, place int) api.Errno {
	for _, f := range l {
		if e := s.pager.Save(f); e != api.OK {
			return e
		}
	}
	if e := s.pager.Sync(); e != api.OK {
		return e
	}
	return s.pager.Commit(r, place)
}
