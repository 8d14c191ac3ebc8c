package txn_test

import (
	"math"
	"slices"
	"strconv"
	"testing"

	"taproot/api"
	"taproot/disk"
	"taproot/ledger"
	"taproot/meta"
	"taproot/page"
	"taproot/pager"
	"taproot/txn"
)

// at is an entry: its transaction, and its page.
type at [2]uint64

// entries are a ledger's.
func entries(l ...at) []entry {
	var own []entry
	for _, x := range l {
		own = append(own, entry{Tx: x[0], Page: uint32(x[1])})
	}
	return own
}

// told wants a base to be as it is reckoned by hand.
func told(t *testing.T, what string, b txn.Base, root meta.Root, pages []uint32, free ...at) {
	t.Helper()
	same(t, what, b, txn.Base{Root: root, Place: int(1 - root.Tx%2), Free: entries(free...), Pages: pages})
}

func TestBasesByHand(t *testing.T) {
	_, p, b := begun(t, 20)
	next := func(oldest, clock uint64) {
		t.Helper()
		y := txn.Begin(p, b, oldest)
		put(t, y, "a", strconv.Itoa(int(clock)))
		b = committed(t, p, y, clock)
		has(t, txn.Look(p, b), "a", strconv.Itoa(int(clock)))
	}
	next(1, 7)
	told(t, "a page alone", b, meta.Root{Tx: 2, Data: 2, High: 3, Clock: 7}, nil)
	next(2, 5)
	told(t, "it was given up", b, meta.Root{Tx: 3, Data: 3, Free: 4, High: 5, Clock: 5}, []uint32{4}, at{3, 2})
	next(3, 5)
	told(t, "it was taken again", b, meta.Root{Tx: 4, Data: 2, Free: 5, High: 6, Clock: 5}, []uint32{5}, at{4, 3}, at{4, 4})
	next(3, 0)
	told(t, "somebody reads what was", b, meta.Root{Tx: 5, Data: 6, Free: 7, High: 8}, []uint32{7}, at{4, 3}, at{4, 4}, at{5, 2}, at{5, 5})
	next(4, 1<<40)
	told(t, "the ledger takes one that it tells, too", b, meta.Root{Tx: 6, Data: 3, Free: 4, High: 8, Clock: 1 << 40}, []uint32{4}, at{5, 2}, at{5, 5}, at{6, 6}, at{6, 7})
	next(math.MaxUint64, 1)
	told(t, "nobody reads what was", b, meta.Root{Tx: 7, Data: 2, Free: 5, High: 8, Clock: 1}, []uint32{5}, at{6, 6}, at{6, 7}, at{7, 3}, at{7, 4})
	next(0, 2)
	told(t, "all is read yet", b, meta.Root{Tx: 8, Data: 8, Free: 9, High: 10, Clock: 2}, []uint32{9}, at{6, 6}, at{6, 7}, at{7, 3}, at{7, 4}, at{8, 2}, at{8, 5})
	y := txn.Begin(p, b, 7)
	b = committed(t, p, y, 3)
	told(t, "nothing was changed", b, meta.Root{Tx: 9, Data: 8, Free: 3, High: 10, Clock: 3}, []uint32{3}, at{6, 6}, at{6, 7}, at{7, 4}, at{8, 2}, at{8, 5}, at{9, 9})
	y = txn.Begin(p, b, 6)
	cut(t, y, "a")
	b = committed(t, p, y, 3)
	told(t, "all was cut", b, meta.Root{Tx: 10, Free: 6, High: 10, Clock: 3}, []uint32{6}, at{6, 7}, at{7, 4}, at{8, 2}, at{8, 5}, at{9, 9}, at{10, 3}, at{10, 8})
}

// What was taken and given back is an entry of that transaction, if it was never used; else its entry stays as it was.
func TestWhatWasGivenBackByHand(t *testing.T) {
	_, p, b := begun(t, 40)
	y := txn.Begin(p, b, 1)
	put(t, y, "a", text(9000)) // in 2, 3 and 4
	put(t, y, "b", "2")
	cut(t, y, "a")
	b = committed(t, p, y, 0)
	told(t, "never used", b, meta.Root{Tx: 2, Data: 5, Free: 2, High: 6}, []uint32{2}, at{2, 3}, at{2, 4})
	y = txn.Begin(p, b, 2)
	put(t, y, "a", text(9000)) // in 3, 4 and 6
	put(t, y, "b", "3")        // in 7
	cut(t, y, "a")
	b = committed(t, p, y, 0)
	told(t, "used once", b, meta.Root{Tx: 3, Data: 7, Free: 3, High: 8}, []uint32{3}, at{2, 4}, at{3, 2}, at{3, 5}, at{3, 6})
}

// A chain of the base is given up, too, whether another value comes in its place or none.
func TestChainsThatAreGivenUpByHand(t *testing.T) {
	_, p, b := begun(t, 40)
	b = based(t, p, b, "a", text(9000), "b", text(500), "c", text(401))
	told(t, "three chains", b, meta.Root{Tx: 2, Data: 5, High: 8}, nil) // 2 to 4, 6, 7
	y := txn.Begin(p, b, 2)
	put(t, y, "a", text(400))
	cut(t, y, "c")
	b = committed(t, p, y, 0)
	told(t, "two of them", b, meta.Root{Tx: 3, Data: 8, Free: 9, High: 10}, []uint32{9}, at{3, 2}, at{3, 3}, at{3, 4}, at{3, 5}, at{3, 7})
	tells(t, "what is left", txn.Look(p, b), map[string]string{"a": text(400), "b": text(500)})
}

// An entry whose transaction is above the base's isn't free, whatever the oldest is; and its page stays.
func TestEntriesAboveTheBases(t *testing.T) {
	_, p, _ := begun(t, 20)
	l := entries(at{4, 4}, at{5, 5}, at{6, 2}, at{9, 3})
	frames, _ := ledger.Frames(l, []uint32{6}, 5)
	saved(t, p, frames...)
	is(t, "Commit", p.Commit(meta.Root{Tx: 5, Free: 6, High: 7}, 0), api.OK)
	y := txn.Begin(p, loaded(t, p), math.MaxUint64)
	is(t, "Left", y.Left(), 15)
	put(t, y, "a", text(9000))
	b, e := y.Commit(0)
	is(t, "Commit", e, api.OK)
	told(t, "they stay", b, meta.Root{Tx: 6, Data: 8, Free: 9, High: 10}, []uint32{9}, at{6, 2}, at{6, 6}, at{9, 3})
}

func TestCommitsThatAreRefused(t *testing.T) {
	d, p, b := begun(t, 20)
	y := txn.Begin(p, b, 1)
	put(t, y, "a", "1")
	steps, left := d.Steps(), y.Left()
	for _, clock := range []uint64{1<<40 + 1, math.MaxUint64} {
		got, e := y.Commit(clock)
		is(t, "a clock too great", e, api.ErrTime)
		none(t, "a clock too great", got)
	}
	is(t, "nothing was written", d.Steps(), steps)
	is(t, "nothing was taken", y.Left(), left)
	is(t, "it goes on", y.Err(), api.OK)
	put(t, y, "b", "2")
	b = committed(t, p, y, 1<<40)
	is(t, "the greatest clock", b.Root.Clock, 1<<40)
	tells(t, "all", txn.Look(p, b), map[string]string{"a": "1", "b": "2"})
}

// What is written is as the layers below tell it, with the transaction's number.
func TestFramesOfACommit(t *testing.T) {
	_, p, b := begun(t, 40)
	b = based(t, p, b, "a", "1")
	y := txn.Begin(p, b, 2)
	for i := range 30 {
		put(t, y, strconv.Itoa(i), text(390))
	}
	put(t, y, "b", text(5000))
	was := p.Count()
	b, e := y.Commit(3)
	is(t, "Commit", e, api.OK)
	counted(t, p, was, b)
	var kinds [6]int
	for id := range uint32(40) {
		f, e := p.Load(id)
		if e != api.OK || f.Tx != 3 {
			continue
		}
		kinds[f.Kind]++
		is(t, "its transaction", f.Tx, 3)
	}
	is(t, "roots", kinds[page.Meta], 1)
	is(t, "branches", kinds[page.Branch], 1)
	is(t, "leaves", kinds[page.Leaf] >= 3, true)
	is(t, "a chain", kinds[page.Chain], 2)
	is(t, "a ledger", kinds[page.Free], 1)
	whole(t, p, b)
}

// ready is a disk, and a transaction that is to be committed: always the same.
func ready(t *testing.T) (*disk.Disk, *pager.Pager, txn.Base, *txn.Txn) {
	d, p, b := begun(t, 80)
	b = based(t, p, b, "a", text(9000), "b", "2", "c", text(20000))
	b = based(t, p, b, "a", "1")
	y := txn.Begin(p, b, 3)
	put(t, y, "c", text(6000))
	for i := range 40 {
		put(t, y, strconv.Itoa(i*7%40), text(390))
	}
	put(t, y, "c", text(30000))
	put(t, y, "d", text(6000))
	put(t, y, "0", text(5000))
	put(t, y, "a", text(5000))
	for i := range 20 { // leaves are joined, and their pages given up
		cut(t, y, strconv.Itoa(i))
	}
	return d, p, b, y
}

// order are the pages that its Commit writes, in the order that the document tells.
func order(t *testing.T) ([]uint32, txn.Base) {
	_, p, _, y := ready(t)
	b := committed(t, p, y, 9)
	own := fresh(t, p, b)
	is(t, "the ledger isn't behind all others", b.Pages[0] < own[len(own)-1], true)
	return append(own, b.Pages...), b
}

// waiting are the pages that wait.
func waiting(d *disk.Disk) []uint32 {
	var ids []uint32
	for _, sector := range d.Waits() {
		ids = append(ids, uint32(sector/8))
	}
	return slices.Compact(ids)
}

func TestOrderOfWrites(t *testing.T) {
	ids, b := order(t)
	for done := range len(ids) + 3 {
		d, p, old, y := ready(t)
		d.Fuse(done)
		got, e := y.Commit(9)
		is(t, "Commit", e, api.ErrPower)
		none(t, "Commit", got)
		dead(t, "without power", y, api.ErrPower)
		var want []uint32
		switch {
		case done <= len(ids):
			want = slices.Sorted(slices.Values(ids[:done]))
		case done == len(ids)+2:
			want = []uint32{uint32(b.Place)}
		}
		list(t, "what was written, and not synced", waiting(d), want)
		d.Crash(nil)
		dead(t, "with power again", y, api.ErrPower)
		same(t, "what Load tells", loaded(t, p), old)
		whole(t, p, old)
	}
	d, p, _, y := ready(t)
	d.Fuse(len(ids) + 3)
	got, e := y.Commit(9)
	is(t, "Commit", e, api.OK)
	same(t, "the base", got, b)
	d.Crash(nil)
	same(t, "what Load tells", loaded(t, p), b)
}

// More entries than one page of a ledger has.
func TestLongLedgers(t *testing.T) {
	_, p, b := begun(t, 1000)
	y := txn.Begin(p, b, 1)
	want := map[string]string{}
	for i := range 50 {
		want[strconv.Itoa(i)] = text(65536 - i)
		put(t, y, strconv.Itoa(i), text(65536-i))
	}
	old := committed(t, p, y, 0)
	y = txn.Begin(p, old, 2)
	for key := range want {
		cut(t, y, key)
	}
	put(t, y, "left", "over")
	b = committed(t, p, y, 0)
	is(t, "its pages", len(b.Pages), 3)
	is(t, "its entries", len(b.Free), 851)
	tells(t, "what was", txn.Look(p, old), want)
	tells(t, "what is", txn.Look(p, b), map[string]string{"left": "over"})
	b = based(t, p, b, "again", text(65536))
	tells(t, "what is then", txn.Look(p, b), map[string]string{"left": "over", "again": text(65536)})
}
