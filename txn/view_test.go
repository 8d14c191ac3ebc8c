package txn_test

import (
	"testing"

	"taproot/api"
	"taproot/disk"
	"taproot/ledger"
	"taproot/meta"
	"taproot/page"
	"taproot/pager"
	"taproot/txn"
)

func TestLoadOfTheNewestRoot(t *testing.T) {
	_, p, b := begun(t, 20)
	same(t, "the first one", b, txn.Base{Root: meta.First()})
	root := meta.Root{Tx: 7, Free: 5, High: 20, Clock: 9}
	entries := []entry{{Tx: 6, Page: 3}, {Tx: 7, Page: 2}}
	frames, e := ledger.Frames(entries, []uint32{5, 4}, 7)
	is(t, "Frames", e, api.OK)
	saved(t, p, frames...)
	is(t, "Commit", p.Commit(root, 1), api.OK)
	same(t, "a newer one with a ledger", loaded(t, p), txn.Base{Root: root, Place: 1, Free: entries, Pages: []uint32{5, 4}})
	is(t, "Commit", p.Commit(meta.Root{Tx: 8, High: 2}, 0), api.OK)
	same(t, "a newer one without", loaded(t, p), txn.Base{Root: meta.Root{Tx: 8, High: 2}})
}

func TestLoadsThatAreRefused(t *testing.T) {
	refused := func(what string, p *pager.Pager, want api.Errno) {
		t.Helper()
		b, e := txn.Load(p)
		is(t, what, e, want)
		none(t, what, b)
	}
	refused("no pager", nil, api.ErrNil)
	d, _ := disk.New(20)
	p := pager.New(d)
	refused("no root", p, api.ErrMeta)
	is(t, "Commit", p.Commit(meta.Root{Tx: 7, Free: 5, High: 9}, 1), api.OK)
	refused("a ledger's page that isn't whole", p, api.ErrSum)
	saved(t, p, page.Frame{Kind: page.Leaf, ID: 5, Body: "\x00\x00\x00\x00"})
	refused("a leaf", p, api.ErrKind)
	saved(t, p, page.Frame{Kind: page.Free, Count: 1, ID: 5, Body: "\x00\x00\x00\x00"})
	refused("an entry that lacks", p, api.ErrForm)
	one := "\x00\x00\x00\x00\x00\x00\x00\x07\x00\x00\x00\x02"
	saved(t, p, page.Frame{Kind: page.Free, Count: 2, ID: 5, Body: "\x00\x00\x00\x00" + one + one})
	refused("entries that don't rise", p, api.ErrOrder)
	d.Fuse(0)
	d.Sync()
	refused("no power", p, api.ErrPower)
}

func TestViews(t *testing.T) {
	d, p, b := begun(t, 60)
	b = based(t, p, b, "", "empty", "a", "1", "b", "", "c", text(401), "d", text(65536), "e", "5")
	v := txn.Look(p, b)
	steps := d.Steps()
	has(t, v, "", "empty")
	has(t, v, "a", "1")
	has(t, v, "b", "")
	has(t, v, "c", text(401))
	has(t, v, "d", text(65536))
	hasnt(t, "no such key", v, "bb", api.OK)
	hasnt(t, "a key that is too long", v, x(300), api.OK)
	is(t, "Tx", v.Tx(), 2)
	tells(t, "all", v, map[string]string{"": "empty", "a": "1", "b": "", "c": text(401), "d": text(65536), "e": "5"})
	goes(t, "within bounds", v.Range("a", "c"), api.OK, "a", "1", "b", "")
	goes(t, "falling", v.Down("a", "d"), api.OK, "c", text(401), "b", "", "a", "1")
	goes(t, "from a key on", v.Range("d0", ""), api.OK, "e", "5")
	goes(t, "falling, from a key on", v.Down("d", ""), api.OK, "e", "5", "d", text(65536))
	goes(t, "up to a key", v.Range("", "a"), api.OK, "", "empty")
	goes(t, "falling, up to a key", v.Down("", "a"), api.OK, "", "empty")
	goes(t, "bounds turned round", v.Range("c", "a"), api.OK)
	goes(t, "falling, bounds turned round", v.Down("c", "a"), api.OK)
	goes(t, "nothing between", v.Range("bb", "bc"), api.OK)
	for range v.Range("", "") {
		break
	}
	for range v.Down("", "") {
		break
	}
	is(t, "it reads only", d.Steps(), steps)
	is(t, "nothing waits", len(d.Waits()), 0)
}

func TestAViewOfAnEmptyBase(t *testing.T) {
	_, p, b := begun(t, 4)
	v := txn.Look(p, b)
	tells(t, "nothing", v, nil)
	hasnt(t, "nothing", v, "", api.OK)
	is(t, "Tx", v.Tx(), 1)
}

// broken is a base of some pairs, of which the chain of c, and then its leaf, aren't whole.
func broken(t *testing.T) (*disk.Disk, *pager.Pager, txn.Base) {
	d, p, b := begun(t, 60)
	b = based(t, p, b, "c", text(9000))
	b = based(t, p, b, "a", "1", "b", text(500), "d", "4")
	v := txn.Look(p, b)
	has(t, v, "c", text(9000))
	spoilt(t, d, 3) // the second one of c's chain
	return d, p, b
}

func TestViewsOfBrokenPages(t *testing.T) {
	d, p, b := broken(t)
	v := txn.Look(p, b)
	hasnt(t, "a broken chain", v, "c", api.ErrSum)
	has(t, v, "b", text(500))
	goes(t, "a row with a broken chain", v.Range("", ""), api.ErrSum, "a", "1", "b", text(500))
	goes(t, "falling", v.Down("", ""), api.ErrSum, "d", "4")
	goes(t, "what isn't asked for isn't read", v.Range("d", ""), api.OK, "d", "4")
	goes(t, "falling", v.Down("", "c"), api.OK, "b", text(500), "a", "1")
	spoilt(t, d, b.Root.Data)
	hasnt(t, "a broken leaf", v, "a", api.ErrSum)
	goes(t, "a broken leaf", v.Range("", ""), api.ErrSum)
	goes(t, "falling", v.Down("", ""), api.ErrSum)
	saved(t, p, page.Frame{Kind: page.Chain, ID: b.Root.Data})
	hasnt(t, "a chain's page in a tree", v, "a", api.ErrKind)
	saved(t, p, page.Frame{Kind: page.Leaf, Count: 1, ID: b.Root.Data})
	hasnt(t, "a leaf that isn't as told", v, "a", api.ErrForm)
	d.Fuse(0)
	d.Sync()
	hasnt(t, "no power", v, "a", api.ErrPower)
	goes(t, "no power", v.Range("", ""), api.ErrPower)
}

// A view is of the base that it was made of, whatever is committed, as long as its pages aren't taken again.
func TestViewsStay(t *testing.T) {
	_, p, b := begun(t, 200)
	b = based(t, p, b, "a", "1", "b", text(5000))
	old, v := b, txn.Look(p, b)
	want := map[string]string{"a": "1", "b": text(5000)}
	for i := range 20 {
		x := txn.Begin(p, b, old.Root.Tx)
		put(t, x, "a", text(i))
		put(t, x, "b", text(4000+i))
		put(t, x, "c", text(300*i))
		tells(t, "while it is changed", v, want)
		b = committed(t, p, x, uint64(i))
		tells(t, "what was", v, want)
	}
	is(t, "its number", v.Tx(), 2)
	is(t, "the newest one's", txn.Look(p, b).Tx(), 22)
}

func TestNilViews(t *testing.T) {
	_, _, b := begun(t, 4)
	var v *txn.View
	for _, v := range []*txn.View{v, txn.Look(nil, b)} {
		hasnt(t, "nil", v, "a", api.ErrNil)
		goes(t, "nil", v.Range("", ""), api.ErrNil)
		goes(t, "nil, falling", v.Down("", ""), api.ErrNil)
		is(t, "its number", v.Tx(), 0)
	}
}
