package check_test

import (
	"slices"
	"strings"
	"testing"

	"taproot/api"
	"taproot/chain"
	"taproot/check"
	"taproot/disk"
	"taproot/ledger"
	"taproot/meta"
	"taproot/node"
	"taproot/page"
	"taproot/pager"
	"taproot/slots"
	"taproot/txn"
)

func is[T comparable](t *testing.T, what string, got, want T) {
	t.Helper()
	if got != want {
		t.Errorf("%s: %v, wanted %v", what, got, want)
	}
}

// list wants a list of just these things.
func list[T comparable](t *testing.T, what string, got, want []T) {
	t.Helper()
	if !slices.Equal(got, want) {
		t.Errorf("%s: %v, wanted %v", what, got, want)
	}
}

// begun is a disk, and a pager of it.
func begun(t *testing.T, pages int) (*disk.Disk, *pager.Pager) {
	t.Helper()
	d, e := disk.New(pages)
	is(t, "disk.New", e, api.OK)
	return d, pager.New(d)
}

// leaf is one of cells.
func leaf(cells ...api.Cell) node.Node { return node.Node{Leaf: true, Cells: cells} }

// kid is one of a branch's.
func kid(key string, page uint32) slots.Kid { return slots.Kid{Key: key, Page: page} }

// branch is one of kids.
func branch(kids ...slots.Kid) node.Node { return node.Node{Kids: kids} }

// lay puts a node into a page.
func lay(t *testing.T, p *pager.Pager, id uint32, n node.Node) {
	t.Helper()
	f, e := n.Frame(id, 1)
	is(t, "Frame", e, api.OK)
	is(t, "Save", p.Save(f), api.OK)
}

// long puts a value into a chain of these pages, and is its cell.
func long(t *testing.T, p *pager.Pager, key string, bytes int, ids ...uint32) api.Cell {
	t.Helper()
	frames, e := chain.Frames(ids, 1, text(bytes))
	is(t, "Frames", e, api.OK)
	for _, f := range frames {
		is(t, "Save", p.Save(f), api.OK)
	}
	return api.Cell{Key: key, Chain: ids[0], Long: uint32(bytes)}
}

// base is one that was made up: the tree's root page, the mark, the ledger's pages, and those of its entries.
func base(root, high uint32, pages []uint32, free ...uint32) txn.Base {
	b := txn.Base{Root: meta.Root{Tx: 5, Data: root, High: high}, Pages: pages}
	for i, id := range free {
		b.Free = append(b.Free, ledger.Entry{Tx: uint64(i), Page: id})
	}
	return b
}

// of is the report of a base.
func of(t *testing.T, p *pager.Pager, b txn.Base) check.Report {
	t.Helper()
	r, e := check.Of(p, b)
	is(t, "Of", e, api.OK)
	return r
}

// same wants two reports to be one.
func same(t *testing.T, what string, got, want check.Report) {
	t.Helper()
	list(t, what+": the tree's pages", got.Tree, want.Tree)
	list(t, what+": the chains'", got.Chains, want.Chains)
	list(t, what+": the ledger's", got.Ledger, want.Ledger)
	list(t, what+": those of its entries", got.Free, want.Free)
	list(t, what+": what is lost", got.Lost, want.Lost)
	list(t, what+": what is there twice", got.Twice, want.Twice)
	is(t, what+": the pairs", got.Pairs, want.Pairs)
	is(t, what+": the bytes", got.Bytes, want.Bytes)
	is(t, what+": how deep", got.Depth, want.Depth)
}

// fails wants Of and Fill to answer these errors, and nothing beside them.
func fails(t *testing.T, what string, p *pager.Pager, b txn.Base, ofs, fills api.Errno) {
	t.Helper()
	r, e := check.Of(p, b)
	is(t, what+": Of", e, ofs)
	same(t, what+": beside the error", r, check.Report{})
	l, e := check.Fill(p, b)
	is(t, what+": Fill", e, fills)
	if e != api.OK {
		is(t, what+": Fill: beside the error", len(l), 0)
	}
}

// broken makes a page one that isn't whole.
func broken(t *testing.T, d *disk.Disk, at uint32) {
	t.Helper()
	p, e := d.Read(at)
	is(t, "Read", e, api.OK)
	p[30]++
	is(t, "Write", d.Write(at, p), api.OK)
}

// save puts a frame of no use onto the disk.
func save(t *testing.T, p *pager.Pager, id uint32, kind uint8) {
	t.Helper()
	is(t, "Save", p.Save(page.Frame{Kind: kind, ID: id, Body: "\x00\x00\x00\x00"}), api.OK)
}

// text is one of so many bytes.
func text(long int) string { return strings.Repeat("x", long) }

// reading is a base's pages as a space.
type reading struct{ p *pager.Pager }

func (r reading) Load(id uint32) (node.Node, api.Errno) {
	f, e := r.p.Load(id)
	if e != api.OK {
		return node.Node{}, e
	}
	return node.Of(f)
}
func (r reading) Own(uint32) bool                    { return false }
func (r reading) Make(node.Node) (uint32, api.Errno) { return 0, api.ErrKind }
func (r reading) Save(uint32, node.Node) api.Errno   { return api.ErrKind }
func (r reading) Drop(uint32) api.Errno              { return api.ErrKind }
