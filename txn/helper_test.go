package txn_test

import (
	"iter"
	"maps"
	"slices"
	"strings"
	"testing"

	"taproot/api"
	"taproot/chain"
	"taproot/disk"
	"taproot/ledger"
	"taproot/meta"
	"taproot/node"
	"taproot/page"
	"taproot/pager"
	"taproot/txn"
)

type entry = ledger.Entry

func is[T comparable](t *testing.T, what string, got, want T) {
	t.Helper()
	if got != want {
		t.Errorf("%s: %v, wanted %v", what, got, want)
	}
}

// list wants a list of just these things.
func list[T comparable](t *testing.T, what string, got, want []T) {
	t.Helper()
	if !slices.Equal(got, want) {
		t.Errorf("%s: %v, wanted %v", what, got, want)
	}
}

// begun is a disk with the first root, a pager of it, and the base.
func begun(t *testing.T, pages int) (*disk.Disk, *pager.Pager, txn.Base) {
	t.Helper()
	d, e := disk.New(pages)
	is(t, "disk.New", e, api.OK)
	p := pager.New(d)
	is(t, "the first root", p.Commit(meta.First(), 0), api.OK)
	return d, p, loaded(t, p)
}

// loaded is the newest base.
func loaded(t *testing.T, p *pager.Pager) txn.Base {
	t.Helper()
	b, e := txn.Load(p)
	is(t, "Load", e, api.OK)
	return b
}

// text is one of so many bytes, no two pieces of which are the same.
func text(long int) string {
	b := make([]byte, long)
	for i := range b {
		b[i] = byte(i*7 + i/256)
	}
	return string(b)
}

// put puts a pair.
func put(t *testing.T, x *txn.Txn, key, value string) {
	t.Helper()
	is(t, "Put", x.Put(key, value), api.OK)
}

// cut cuts a key that is there.
func cut(t *testing.T, x *txn.Txn, key string) {
	t.Helper()
	there, e := x.Cut(key)
	is(t, "Cut", e, api.OK)
	is(t, "Cut: was it there?", there, true)
}

// committed is the base behind a Commit, of which Load tells the same.
func committed(t *testing.T, p *pager.Pager, x *txn.Txn, clock uint64) txn.Base {
	t.Helper()
	b, e := x.Commit(clock)
	is(t, "Commit", e, api.OK)
	is(t, "behind it", x.Err(), api.ErrClosed)
	same(t, "what Load tells", loaded(t, p), b)
	whole(t, p, b)
	return b
}

// based is the base behind one transaction of some pairs: key, value, key, value ..
func based(t *testing.T, p *pager.Pager, b txn.Base, pairs ...string) txn.Base {
	t.Helper()
	x := txn.Begin(p, b, b.Root.Tx)
	for i := 0; i < len(pairs); i += 2 {
		put(t, x, pairs[i], pairs[i+1])
	}
	return committed(t, p, x, b.Root.Clock)
}

// same wants two bases to be one.
func same(t *testing.T, what string, got, want txn.Base) {
	t.Helper()
	is(t, what+": the root", got.Root, want.Root)
	is(t, what+": the place", got.Place, want.Place)
	list(t, what+": the entries", got.Free, want.Free)
	list(t, what+": the ledger's pages", got.Pages, want.Pages)
}

// none wants a zero base.
func none(t *testing.T, what string, b txn.Base) {
	t.Helper()
	is(t, what+": beside the error", b.Root == meta.Root{} && b.Place == 0 && b.Free == nil && b.Pages == nil, true)
}

// reader is a view, or a transaction.
type reader interface {
	Get(key string) (string, bool, api.Errno)
	Range(from, to string) iter.Seq2[api.Pair, api.Errno]
	Down(from, to string) iter.Seq2[api.Pair, api.Errno]
}

// has wants a value.
func has(t *testing.T, r reader, key, want string) {
	t.Helper()
	v, there, e := r.Get(key)
	is(t, "Get: the error", e, api.OK)
	is(t, "Get: is it there?", there, true)
	is(t, "Get: the value", v == want, true)
}

// hasnt wants no value, and that error, or OK.
func hasnt(t *testing.T, what string, r reader, key string, want api.Errno) {
	t.Helper()
	v, there, e := r.Get(key)
	is(t, what+": Get", e, want)
	is(t, what+": Get: beside that", v == "" && !there, true)
}

// goes wants a row of pairs, key, value, key, value .., and then an error, if it isn't OK.
func goes(t *testing.T, what string, row txn.Row, want api.Errno, pairs ...string) {
	t.Helper()
	for range 2 { // a row may be gone through again
		var got []string
		last := api.OK
		for x, e := range row {
			is(t, what+": nothing behind an error", last, api.OK)
			last = e
			if e == api.OK {
				got = append(got, x.Key, x.Value)
			} else {
				is(t, what+": beside the error", x, api.Pair{})
			}
		}
		is(t, what, last, want)
		is(t, what+": how many", len(got), len(pairs))
		is(t, what+": the pairs", slices.Equal(got, pairs), true)
	}
}

// tells wants a reader to have just these pairs, by all its calls.
func tells(t *testing.T, what string, r reader, pairs map[string]string) {
	t.Helper()
	var rising, falling []string
	keys := slices.Sorted(maps.Keys(pairs))
	for i, key := range keys {
		has(t, r, key, pairs[key])
		last := keys[len(keys)-1-i]
		rising, falling = append(rising, key, pairs[key]), append(falling, last, pairs[last])
	}
	goes(t, what, r.Range("", ""), api.OK, rising...)
	goes(t, what+", falling", r.Down("", ""), api.OK, falling...)
}

// spoilt makes a page one that isn't whole.
func spoilt(t *testing.T, d *disk.Disk, at uint32) {
	t.Helper()
	p, e := d.Read(at)
	is(t, "Read", e, api.OK)
	p[30]++
	is(t, "Write", d.Write(at, p), api.OK)
	is(t, "Sync", d.Sync(), api.OK)
}

// saved are frames on the disk.
func saved(t *testing.T, p *pager.Pager, frames ...page.Frame) {
	t.Helper()
	for _, f := range frames {
		is(t, "Save", p.Save(f), api.OK)
	}
}

// under are the pages of a tree, and of its chains.
func under(t *testing.T, p *pager.Pager, id uint32, tx uint64) []uint32 {
	t.Helper()
	f, e := p.Load(id, page.Leaf, page.Branch)
	is(t, "a page of the tree", e, api.OK)
	is(t, "its transaction isn't a later one", f.Tx <= tx, true)
	n, e := node.Of(f)
	is(t, "its node", e, api.OK)
	ids := []uint32{id}
	for _, k := range n.Kids {
		ids = append(ids, under(t, p, k.Page, tx)...)
	}
	for _, c := range n.Cells {
		if c.Chain != 0 {
			is(t, "what stands in a chain is long", c.Long > api.MaxInline, true)
			_, some, e := chain.Read(p, c.Chain, int(c.Long))
			is(t, "a chain", e, api.OK)
			ids = append(ids, some...)
		}
	}
	return ids
}

// whole wants each page from 2 to below the mark to be just one thing.
func whole(t *testing.T, p *pager.Pager, b txn.Base) {
	t.Helper()
	ids := slices.Clone(b.Pages)
	for _, x := range b.Free {
		ids = append(ids, x.Page)
		is(t, "an entry's transaction isn't a later one", x.Tx <= b.Root.Tx, true)
	}
	if b.Root.Data != 0 {
		ids = append(ids, under(t, p, b.Root.Data, b.Root.Tx)...)
	}
	slices.Sort(ids)
	var want []uint32
	for id := uint32(2); id < b.Root.High; id++ {
		want = append(want, id)
	}
	list(t, "each page is one thing", ids, want)
}

// fresh are the pages of a base's tree and chains that its own transaction wrote, rising.
func fresh(t *testing.T, p *pager.Pager, b txn.Base) []uint32 {
	t.Helper()
	if b.Root.Data == 0 {
		return nil
	}
	ids := under(t, p, b.Root.Data, b.Root.Tx)
	slices.Sort(ids)
	return slices.DeleteFunc(ids, func(id uint32) bool {
		f, e := p.Load(id)
		is(t, "Load", e, api.OK)
		return f.Tx != b.Root.Tx
	})
}

// counted wants each page of a base that its own transaction wrote to be written once, and no other one, and two syncs.
func counted(t *testing.T, p *pager.Pager, was pager.Count, b txn.Base) {
	t.Helper()
	now := p.Count()
	is(t, "writes", now.Writes-was.Writes, len(fresh(t, p, b))+len(b.Pages)+1)
	is(t, "syncs", now.Syncs-was.Syncs, 2)
}

// x is a text of so many bytes.
func x(n int) string { return strings.Repeat("x", n) }
