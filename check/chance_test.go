package check_test

import (
	"math/rand/v2"
	"slices"
	"strconv"
	"testing"

	"taproot/api"
	"taproot/check"
	"taproot/cursor"
	"taproot/pager"
	"taproot/store"
	"taproot/tree"
	"taproot/txn"
)

// held wants the report of a base to be what the layers below tell of it one by one.
func held(t *testing.T, p *pager.Pager, b txn.Base) check.Report {
	t.Helper()
	r := of(t, p, b)
	is(t, "Whole", r.Whole(), true)
	is(t, "each page is one thing", len(r.Tree)+len(r.Chains)+len(r.Ledger)+len(r.Free), int(b.Root.High)-2)
	is(t, "Used", r.Used(), int(b.Root.High)-2-len(b.Free))
	list(t, "the ledger's pages", r.Ledger, slices.Sorted(slices.Values(b.Pages)))
	pairs, bytes := 0, 0
	for x, e := range txn.Look(p, b).Range("", "") {
		is(t, "Range", e, api.OK)
		pairs, bytes = pairs+1, bytes+len(x.Key)+len(x.Value)
	}
	is(t, "the pairs", r.Pairs, pairs)
	is(t, "the bytes", r.Bytes, uint64(bytes))
	in := reading{p}
	all := tree.Over(in, b.Root.Data)
	depth, e := all.Depth()
	is(t, "how deep", depth == r.Depth && e == api.OK, true)
	var ids []uint32
	var sizes []int
	for id, e := range cursor.Pages(all) {
		is(t, "Pages", e, api.OK)
		n, e := in.Load(id)
		is(t, "Load", e, api.OK)
		ids, sizes = append(ids, id), append(sizes, n.Size())
	}
	fill, e := check.Fill(p, b)
	is(t, "Fill", e, api.OK)
	list(t, "what each page takes", fill, sizes)
	list(t, "the tree's pages", r.Tree, slices.Sorted(slices.Values(ids)))
	return r
}

// change changes a pair by chance.
func change(x *txn.Txn, r *rand.Rand, wide, long int) {
	key := strconv.Itoa(r.IntN(wide)) + text(r.IntN(100))
	switch r.IntN(6) {
	case 0:
		x.Cut(key)
	case 1:
		x.Put(key, text(r.IntN(long)))
	default:
		x.Put(key, text(r.IntN(402)))
	}
}

// What a transaction left is whole: of those that were committed, those that snapshots read, and where no page was left.
func TestWhatATransactionLeft(t *testing.T) {
	deep, full := 0, 0
	for seed, w := range []struct{ pages, wide, long, steps int }{{4, 3, 500, 3}, {10, 20, 5000, 10}, {50, 100, 9000, 20}, {700, 300, 30000, 60}, {2000, 9000, 401, 300}} {
		r := rand.New(rand.NewPCG(uint64(seed), 17))
		d, _ := begun(t, w.pages)
		s, e := store.Open(d)
		is(t, "Open", e, api.OK)
		for range 40 {
			x, e := s.Begin()
			is(t, "Begin", e, api.OK)
			for range r.IntN(w.steps) + 1 {
				change(x, r, w.wide, w.long)
			}
			if s.Commit(0) == api.ErrFull {
				full++
			}
			deep = max(deep, held(t, s.Pager(), s.Base()).Depth)
			if r.IntN(4) == 0 {
				s.Snap()
			}
			if l := s.Snaps(); r.IntN(3) == 0 && len(l) > 0 {
				s.Close(l[0])
			}
		}
	}
	is(t, "some trees were deep", deep >= 3, true)
	is(t, "sometimes there was no page", full > 5, true)
}
