// Package txn is layer 15: see shared/doc/15-txn.md.
package txn

import (
	"slices"

	"taproot/api"
	"taproot/ledger"
	"taproot/meta"
	"taproot/pager"
)

// Base is what a transaction stands on.
type Base struct {
	Root  meta.Root
	Place int
	Free  []ledger.Entry
	Pages []uint32
}

// Load: the newest one.
func Load(p *pager.Pager) (Base, api.Errno) {
	root, place, e := p.Root()
	if e != api.OK {
		return Base{}, e
	}
	free, pages, e := ledger.Read(p, root.Free)
	if e != api.OK {
		return Base{}, e
	}
	return Base{Root: root, Place: place, Free: free, Pages: pages}, api.OK
}

// copied is a base that shares nothing with this one.
func (b Base) copied() Base {
	b.Free, b.Pages = slices.Clone(b.Free), slices.Clone(b.Pages)
	return b
}
