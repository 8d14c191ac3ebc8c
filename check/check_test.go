package check_test

import (
	"math"
	"slices"
	"testing"

	"taproot/api"
	"taproot/check"
	"taproot/ledger"
	"taproot/meta"
	"taproot/page"
	"taproot/pager"
	"taproot/txn"
)

func TestExample(t *testing.T) {
	d, p := begun(t, 4)
	is(t, "the first root", p.Commit(meta.First(), 0), api.OK)
	b, e := txn.Load(p)
	is(t, "Load", e, api.OK)
	steps := d.Steps()
	r := of(t, p, b)
	same(t, "the first base", r, check.Report{})
	is(t, "Whole", r.Whole(), true)
	is(t, "Used", r.Used(), 0)
	l, e := check.Fill(p, b)
	is(t, "Fill", e == api.OK && len(l) == 0, true)
	is(t, "it reads only", d.Steps(), steps)
}

// hand is a tree whose pages, and whose chains' pages, don't stand in the order of their numbers.
func hand(t *testing.T, p *pager.Pager) {
	lay(t, p, 12, branch(kid("", 4), kid("k", 9)))
	lay(t, p, 9, leaf(api.Cell{Key: "m", Value: "12345"}, api.Cell{Key: "n"}))
	lay(t, p, 4, leaf(long(t, p, "a", 5000, 7, 3), api.Cell{Key: "bb", Value: text(400)}, long(t, p, "c", 0, 6)))
}

func TestByHand(t *testing.T) {
	_, p := begun(t, 20)
	hand(t, p)
	b := base(12, 14, []uint32{13, 5}, 10, 2, 11, 8)
	r := of(t, p, b)
	same(t, "all pages", r, check.Report{
		Tree: []uint32{4, 9, 12}, Chains: []uint32{3, 6, 7}, Ledger: []uint32{5, 13}, Free: []uint32{2, 8, 10, 11},
		Pairs: 5, Bytes: 1 + 5000 + 2 + 400 + 1 + 1 + 5 + 1, Depth: 2,
	})
	is(t, "Whole", r.Whole(), true)
	is(t, "Used", r.Used(), 8)
	l, e := check.Fill(p, b)
	is(t, "Fill", e, api.OK)
	list(t, "Fill", l, []int{
		2 + 1 + 0 + 4 + 2 + 1 + 1 + 4,                               // 12
		2 + 1 + 1 + 1 + 8 + 2 + 1 + 2 + 1 + 2 + 400 + 2 + 1 + 1 + 9, // 4
		2 + 1 + 1 + 1 + 2 + 5 + 2 + 1 + 1 + 1 + 2,                   // 9
	})
	list(t, "what was handed in: the pages", b.Pages, []uint32{13, 5})
	list(t, "what was handed in: the entries", b.Free, base(0, 0, nil, 10, 2, 11, 8).Free)
}

// What a report lacks of whole, by hand: the base's tree is one leaf in 4, and its chain's pages are 3 and 2.
func TestLostAndTwice(t *testing.T) {
	_, p := begun(t, 20)
	lay(t, p, 4, leaf(long(t, p, "a", 5000, 3, 2)))
	for _, w := range []struct {
		what        string
		b           txn.Base
		lost, twice []uint32
	}{
		{"just right", base(4, 5, nil), nil, nil},
		{"a ledger", base(4, 7, []uint32{5}, 6), nil, nil},
		{"the last one", base(4, 6, nil), []uint32{5}, nil},
		{"some between", base(4, 11, []uint32{10}, 7), []uint32{5, 6, 8, 9}, nil},
		{"all but a ledger", base(0, 6, []uint32{3}), []uint32{2, 4, 5}, nil},
		{"a page of the tree in the ledger", base(4, 5, []uint32{4}), nil, []uint32{4}},
		{"a page of the tree is free", base(4, 5, nil, 4), nil, []uint32{4}},
		{"a chain's page in the ledger", base(4, 5, []uint32{2}), nil, []uint32{2}},
		{"chains' pages are free", base(4, 5, nil, 3, 2), nil, []uint32{2, 3}},
		{"a ledger's page is free", base(4, 6, []uint32{5}, 5), nil, []uint32{5}},
		{"twice in the ledger", base(4, 6, []uint32{5, 5}), nil, []uint32{5}},
		{"three times free", base(4, 6, nil, 5, 5, 5), nil, []uint32{5}},
		{"often", base(4, 6, []uint32{5, 5, 4}, 5, 4, 4), nil, []uint32{4, 5}},
		{"below 2 in the ledger", base(4, 5, []uint32{1, 0}), nil, []uint32{0, 1}},
		{"below 2 and free", base(4, 5, nil, 1, 0, 1), nil, []uint32{0, 1}},
		{"the mark in the ledger", base(4, 5, []uint32{5}), nil, []uint32{5}},
		{"the mark is free", base(4, 5, nil, 5), nil, []uint32{5}},
		{"far beyond the mark", base(4, 5, []uint32{math.MaxUint32}, 1<<31, math.MaxUint32-1), nil, []uint32{1 << 31, math.MaxUint32 - 1, math.MaxUint32}},
		{"a chain not below the mark", base(4, 3, nil), nil, []uint32{3, 4}},
		{"the tree not below the mark", base(4, 4, nil), nil, []uint32{4}},
		{"no page is below the mark", base(4, 0, nil), nil, []uint32{2, 3, 4}},
		{"a mark of 1", base(0, 1, nil, 2), nil, []uint32{2}},
		{"a mark beyond the disk", base(4, 25, []uint32{23}, 5, 6, 7, 8, 9, 10, 11, 12, 13, 14, 15, 16, 17, 18), []uint32{19, 20, 21, 22, 24}, nil},
		{"both", base(4, 8, []uint32{6, 9}, 6, 0), []uint32{5, 7}, []uint32{0, 6, 9}},
	} {
		r := of(t, p, w.b)
		list(t, w.what+": lost", r.Lost, w.lost)
		list(t, w.what+": twice", r.Twice, w.twice)
		is(t, w.what+": Whole", r.Whole(), len(w.lost) == 0 && len(w.twice) == 0)
		list(t, w.what+": the ledger", r.Ledger, slices.Sorted(slices.Values(w.b.Pages)))
		is(t, w.what+": those of entries", len(r.Free), len(w.b.Free))
		is(t, w.what+": they rise", slices.IsSorted(r.Free), true)
	}
}

func TestWholeAndUsed(t *testing.T) {
	some := []uint32{4, 5, 6}
	is(t, "nothing", check.Report{}.Whole(), true)
	is(t, "all of use", check.Report{Tree: some, Chains: some, Ledger: some, Free: some, Pairs: 1, Bytes: 2, Depth: 3}.Whole(), true)
	is(t, "lost", check.Report{Lost: some}.Whole(), false)
	is(t, "twice", check.Report{Twice: some[:1]}.Whole(), false)
	is(t, "both", check.Report{Lost: some, Twice: some}.Whole(), false)
	is(t, "Used", check.Report{Tree: some, Chains: some[:2], Ledger: some[:1]}.Used(), 6)
	is(t, "what isn't used", check.Report{Free: some, Lost: some, Twice: some, Pairs: 1, Bytes: 2, Depth: 3}.Used(), 0)
}

// A page to which several lead is told as often, and so is what it has; it is there twice.
func TestPagesThatAreMetTwice(t *testing.T) {
	_, p := begun(t, 20)
	lay(t, p, 2, branch(kid("", 5), kid("k", 5), kid("l", 6)))
	lay(t, p, 5, leaf(long(t, p, "a", 5000, 8, 7), api.Cell{Key: "b", Value: "2"}))
	lay(t, p, 6, leaf(api.Cell{Key: "c", Chain: 8, Long: 5000}))
	b := base(2, 9, []uint32{4}, 3)
	same(t, "met twice", of(t, p, b), check.Report{
		Tree: []uint32{2, 5, 5, 6}, Chains: []uint32{7, 7, 7, 8, 8, 8}, Ledger: []uint32{4}, Free: []uint32{3},
		Twice: []uint32{5, 7, 8}, Pairs: 5, Bytes: 2*(5001+2) + 5001, Depth: 2,
	})
	l, e := check.Fill(p, b)
	is(t, "Fill", e, api.OK)
	is(t, "each as often", len(l) == 4 && l[1] == l[2] && l[1] != l[3], true)
}

// tower is a tree of so many levels, a page each, from page 2 on.
func tower(t *testing.T, p *pager.Pager, levels int) {
	t.Helper()
	for level := 1; level < levels; level++ {
		lay(t, p, uint32(level+1), branch(kid("", uint32(level+2))))
	}
	lay(t, p, uint32(levels+1), leaf(api.Cell{Key: "a", Value: "1"}))
}

func TestDepth(t *testing.T) {
	_, p := begun(t, 30)
	for levels := 1; levels <= 8; levels++ {
		tower(t, p, levels)
		r := of(t, p, base(2, uint32(levels+2), nil))
		is(t, "how deep", r.Depth, levels)
		is(t, "how many pages", len(r.Tree), levels)
		is(t, "Whole", r.Whole(), true)
		l, e := check.Fill(p, base(2, 0, nil))
		is(t, "Fill", e == api.OK && len(l) == levels, true)
	}
	tower(t, p, 9)
	fails(t, "too deep", p, base(2, 11, nil), api.ErrPage, api.ErrPage)
	same(t, "from the second level on", of(t, p, base(3, 11, nil)), check.Report{
		Tree: []uint32{3, 4, 5, 6, 7, 8, 9, 10}, Lost: []uint32{2}, Pairs: 1, Bytes: 2, Depth: 8,
	})
	lay(t, p, 20, branch(kid("", 21), kid("b", 20)))
	lay(t, p, 21, leaf(api.Cell{Key: "a"}))
	fails(t, "it leads back into itself", p, base(20, 22, nil), api.ErrPage, api.ErrPage)
	lay(t, p, 22, branch(kid("", 21), kid("b", 8), kid("c", 10)))
	is(t, "not all leaves are equally deep", of(t, p, base(22, 23, nil)).Depth, 4)
}

func TestErrorsOfTheTree(t *testing.T) {
	d, p := begun(t, 20)
	fails(t, "no pager", nil, base(2, 5, nil), api.ErrNil, api.ErrNil)
	fails(t, "no pager, and no tree", nil, txn.Base{}, api.ErrNil, api.ErrNil)
	fails(t, "no such page", p, base(20, 21, nil), api.ErrPage, api.ErrPage)
	fails(t, "no such page, far away", p, base(math.MaxUint32, 2, nil), api.ErrPage, api.ErrPage)
	fails(t, "zeros", p, base(2, 5, nil), api.ErrSum, api.ErrSum)
	is(t, "the first root", p.Commit(meta.First(), 1), api.OK)
	fails(t, "a root", p, base(1, 5, nil), api.ErrKind, api.ErrKind)
	for _, kind := range []uint8{page.Chain, page.Free} {
		save(t, p, 2, kind)
		fails(t, "another kind", p, base(2, 5, nil), api.ErrKind, api.ErrKind)
	}
	save(t, p, 2, page.Leaf)
	fails(t, "a leaf that isn't as told", p, base(2, 5, nil), api.ErrForm, api.ErrForm)
	is(t, "Save", p.Save(page.Frame{Kind: page.Branch, ID: 2}), api.OK)
	fails(t, "a branch without kids", p, base(2, 5, nil), api.ErrForm, api.ErrForm)
	lay(t, p, 2, leaf())
	same(t, "a leaf without cells", of(t, p, base(2, 3, nil)), check.Report{Tree: []uint32{2}, Depth: 1})
	lay(t, p, 2, branch(kid("", 3), kid("b", 4), kid("c", 5)))
	lay(t, p, 3, leaf(api.Cell{Key: "a"}))
	lay(t, p, 5, leaf(api.Cell{Key: "c"}))
	fails(t, "a kid", p, base(2, 6, nil), api.ErrSum, api.ErrSum)
	save(t, p, 5, page.Chain)
	fails(t, "the first one that is wrong", p, base(2, 6, nil), api.ErrSum, api.ErrSum)
	save(t, p, 4, page.Free)
	broken(t, d, 5)
	fails(t, "the first one that is wrong", p, base(2, 6, nil), api.ErrKind, api.ErrKind)
	d.Fuse(0)
	d.Sync()
	fails(t, "no power", p, base(2, 6, nil), api.ErrPower, api.ErrPower)
	same(t, "nothing is read", of(t, p, base(0, 4, []uint32{2}, 3)), check.Report{Ledger: []uint32{2}, Free: []uint32{3}})
}

func TestErrorsOfChains(t *testing.T) {
	d, p := begun(t, 20)
	b := base(2, 9, nil)
	cells := []api.Cell{long(t, p, "a", 5000, 4, 3), long(t, p, "b", 500, 5), long(t, p, "c", 500, 6)}
	lay(t, p, 2, leaf(cells...))
	same(t, "all are there", of(t, p, b), check.Report{
		Tree: []uint32{2}, Chains: []uint32{3, 4, 5, 6}, Lost: []uint32{7, 8}, Pairs: 3, Bytes: 6003, Depth: 1,
	})
	save(t, p, 5, page.Free)
	fails(t, "no chain", p, b, api.ErrKind, api.OK)
	broken(t, d, 3)
	fails(t, "the first one", p, b, api.ErrSum, api.OK)
	for _, w := range []struct {
		what string
		c    api.Cell
		want api.Errno
	}{
		{"shorter than told", api.Cell{Key: "a", Chain: 6, Long: 501}, api.ErrForm},
		{"longer than told", api.Cell{Key: "a", Chain: 6, Long: 499}, api.ErrForm},
		{"a value that is too long", api.Cell{Key: "a", Chain: 6, Long: 1<<16 + 1}, api.ErrLong},
		{"far too long", api.Cell{Key: "a", Chain: 6, Long: math.MaxUint32}, api.ErrLong},
		{"no such page", api.Cell{Key: "a", Chain: 20, Long: 500}, api.ErrPage},
		{"the tree's own page", api.Cell{Key: "a", Chain: 2, Long: 500}, api.ErrKind},
	} {
		lay(t, p, 2, leaf(w.c))
		fails(t, w.what, p, b, w.want, api.OK)
	}
	lay(t, p, 2, branch(kid("", 3), kid("b", 4)))
	lay(t, p, 3, leaf(api.Cell{Key: "a", Chain: 20, Long: 500}))
	broken(t, d, 4)
	fails(t, "the tree's pages go ahead", p, b, api.ErrSum, api.ErrSum)
}

// A base's ledger isn't read: what it tells counts, whatever stands there.
func TestTheLedgerIsNotRead(t *testing.T) {
	_, p := begun(t, 20)
	b := base(0, 6, []uint32{3, 2}, 5, 4)
	b.Root.Free = 19
	was := p.Count()
	same(t, "zeros", of(t, p, b), check.Report{Ledger: []uint32{2, 3}, Free: []uint32{4, 5}})
	is(t, "nothing is read", p.Count(), was)
}

func TestWhatIsToldIsNewMemory(t *testing.T) {
	_, p := begun(t, 20)
	hand(t, p)
	b := base(12, 14, []uint32{5, 13}, 2, 8, 10, 11)
	want := of(t, p, b)
	r := of(t, p, b)
	for _, l := range [][]uint32{r.Tree, r.Chains, r.Ledger, r.Free} {
		for i := range l {
			l[i] = 99
		}
		_ = append(l, 99)
	}
	same(t, "another one", of(t, p, b), want)
	list(t, "the base", b.Pages, []uint32{5, 13})
	spare := append(make([]uint32, 0, 9), 13, 5)
	spare[:3][2] = 7
	of(t, p, base(12, 14, spare))
	list(t, "spare room", spare[:3], []uint32{13, 5, 7})
	list(t, "the entries", b.Free, []ledger.Entry{{Tx: 0, Page: 2}, {Tx: 1, Page: 8}, {Tx: 2, Page: 10}, {Tx: 3, Page: 11}})
}
