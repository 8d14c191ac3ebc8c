package store_test

import (
	"math"
	"strconv"
	"testing"

	"taproot/api"
	"taproot/disk"
	"taproot/ledger"
	"taproot/meta"
	"taproot/page"
	"taproot/pager"
	"taproot/store"
	"taproot/txn"
)

func TestExample(t *testing.T) {
	_, s := made(t, 4)
	same(t, "an empty disk", s.Base(), txn.Base{Root: meta.First()})
	is(t, "the root's number", s.Base().Root.Tx, 1)
	is(t, "the oldest", s.Oldest(), 1)
	tells(t, "nothing", s.Now(), nil)
	list(t, "no snapshots", s.Snaps(), nil)
}

func TestOpenOfADiskThatHasARoot(t *testing.T) {
	d, _ := disk.New(60)
	s, e := store.Open(d)
	is(t, "Open", e, api.OK)
	is(t, "a root was written, and synced", d.Steps(), 2)
	list(t, "nothing waits", d.Waits(), nil)
	is(t, "what was counted", s.Pager().Count(), pager.Count{Reads: 4, Writes: 1, Syncs: 1})
	commit(t, s, 7, "a", "1", "b", text(5000))
	commit(t, s, 8, "a", "2")
	steps := d.Steps()
	again := opened(t, d)
	is(t, "nothing is written", d.Steps(), steps)
	same(t, "the base", again.Base(), s.Base())
	tells(t, "its pairs", again.Now(), map[string]string{"a": "2", "b": text(5000)})
	is(t, "it has a pager of its own", again.Pager() != s.Pager() && again.Pager() != nil, true)
}

// broken makes a page one that isn't whole.
func broken(t *testing.T, d *disk.Disk, at uint32) {
	t.Helper()
	p, e := d.Read(at)
	is(t, "Read", e, api.OK)
	p[30]++
	is(t, "Write", d.Write(at, p), api.OK)
	is(t, "Sync", d.Sync(), api.OK)
}

// refused wants Open to answer that error.
func refused(t *testing.T, what string, d *disk.Disk, want api.Errno) {
	t.Helper()
	s, e := store.Open(d)
	is(t, what+": Open", e, want)
	is(t, what+": no store", s == nil, true)
}

func TestOpensThatAreRefused(t *testing.T) {
	refused(t, "no disk", nil, api.ErrNil)
	for fuse := range 2 {
		d, _ := disk.New(4)
		d.Fuse(fuse)
		refused(t, "the power goes", d, api.ErrPower)
		refused(t, "no power", d, api.ErrPower)
		d.Crash(nil)
		opened(t, d)
	}
	d, s := made(t, 60)
	commit(t, s, 0, "a", "1")
	commit(t, s, 0, "a", "2")
	broken(t, d, s.Base().Pages[0])
	steps := d.Steps()
	refused(t, "a broken ledger", d, api.ErrSum)
	is(t, "nothing is written", d.Steps(), steps)
	broken(t, d, uint32(s.Base().Place))
	is(t, "the root ahead", opened(t, d).Base().Root.Tx, 2)
	broken(t, d, uint32(meta.Turn(s.Base().Place)))
	same(t, "no root at all: the first one", opened(t, d).Base(), txn.Base{Root: meta.First()})
}

func TestOneTransactionAtATime(t *testing.T) {
	_, s := made(t, 60)
	x := begun(t, s)
	put(t, x, "a", "1")
	for range 2 {
		y, e := s.Begin()
		is(t, "Begin of a second one", y == nil && e == api.ErrOpen, true)
	}
	is(t, "the first one lives", x.Err(), api.OK)
	tells(t, "what isn't committed", s.Now(), nil)
	is(t, "Commit", s.Commit(9), api.OK)
	ended(t, "behind a Commit", s, x)
	tells(t, "what was committed", s.Now(), map[string]string{"a": "1"})
	same(t, "the base by hand", s.Base(), txn.Base{Root: meta.Root{Tx: 2, Data: 2, High: 3, Clock: 9}, Place: 1})
	x = begun(t, s)
	put(t, x, "a", "2")
	is(t, "Abort", s.Abort(), api.OK)
	ended(t, "behind an Abort", s, x)
	tells(t, "what was aborted", s.Now(), map[string]string{"a": "1"})
	is(t, "the root's number", s.Base().Root.Tx, 2)
	lasting(t, s)
	commit(t, s, 3, "b", "2")
	tells(t, "it goes on", s.Now(), map[string]string{"a": "1", "b": "2"})
}

func TestNoneIsOpen(t *testing.T) {
	d, s := made(t, 60)
	steps := d.Steps()
	for _, clock := range []uint64{0, 1<<40 + 1} {
		is(t, "Commit", s.Commit(clock), api.ErrNone)
	}
	is(t, "Abort", s.Abort(), api.ErrNone)
	is(t, "nothing is written", d.Steps(), steps)
	is(t, "it isn't lost", s.Err(), api.OK)
}

// A transaction that was ended otherwise isn't open any more.
func TestTransactionsThatWereEndedOtherwise(t *testing.T) {
	_, s := made(t, 60)
	commit(t, s, 1, "a", "1")
	x := begun(t, s)
	put(t, x, "a", "2")
	x.Abort()
	ended(t, "aborted otherwise", s, x)
	same(t, "the base", s.Base(), txn.Base{Root: meta.Root{Tx: 2, Data: 2, High: 3, Clock: 1}, Place: 1})
	y := begun(t, s)
	put(t, y, "a", "3")
	_, e := y.Commit(5)
	is(t, "committed otherwise", e, api.OK)
	ended(t, "committed otherwise", s, y)
	is(t, "the store's base stays", s.Base().Root.Tx, 2)
	tells(t, "and its pairs", s.Now(), map[string]string{"a": "1"})
	commit(t, s, 6, "b", "4")
	tells(t, "it goes on from its base", s.Now(), map[string]string{"a": "1", "b": "4"})
	x.Abort()
	z := begun(t, s)
	y.Abort()
	is(t, "an elder one's Abort doesn't end it", z.Err(), api.OK)
	is(t, "Abort", s.Abort(), api.OK)
}

func TestClocksThatAreRefused(t *testing.T) {
	d, s := made(t, 60)
	x := begun(t, s)
	put(t, x, "a", "1")
	steps := d.Steps()
	for _, clock := range []uint64{1<<40 + 1, math.MaxUint64} {
		is(t, "Commit", s.Commit(clock), api.ErrTime)
		is(t, "it stays open", x.Err(), api.OK)
		_, e := s.Begin()
		is(t, "Begin", e, api.ErrOpen)
	}
	is(t, "nothing is written", d.Steps(), steps)
	is(t, "it isn't lost", s.Err(), api.OK)
	put(t, x, "b", "2")
	is(t, "Commit", s.Commit(1<<40), api.OK)
	is(t, "the greatest clock", s.Base().Root.Clock, 1<<40)
	tells(t, "all", s.Now(), map[string]string{"a": "1", "b": "2"})
}

// unlost wants a store to go on as it was.
func unlost(t *testing.T, what string, s *store.Store, want map[string]string) {
	t.Helper()
	is(t, what+": it isn't lost", s.Err(), api.OK)
	tells(t, what+": its pairs", s.Now(), want)
	lasting(t, s)
	begun(t, s)
	is(t, what+": Abort", s.Abort(), api.OK)
}

func TestFull(t *testing.T) {
	d, s := made(t, 4)
	commit(t, s, 0, "a", "1")
	want := map[string]string{"a": "1"}
	x := begun(t, s)
	put(t, x, "a", "2")
	steps := d.Steps()
	is(t, "no page for the ledger", s.Commit(0), api.ErrFull)
	ended(t, "no page for the ledger", s, x)
	unlost(t, "no page for the ledger", s, want)
	x = begun(t, s)
	is(t, "no page for a chain", x.Put("b", text(9000)), api.ErrFull)
	_, e := s.Begin()
	is(t, "what is dead is open yet", e, api.ErrOpen)
	is(t, "a dead one", s.Commit(1<<40+1), api.ErrFull)
	ended(t, "no page for a chain", s, x)
	unlost(t, "no page for a chain", s, want)
	is(t, "nothing is written", d.Steps(), steps)
}

// What is dead already, by whatever error, is told so by Commit, and the store isn't lost.
func TestCommitsOfWhatIsDead(t *testing.T) {
	d, s := made(t, 60)
	commit(t, s, 0, "c", text(9000))
	commit(t, s, 0, "a", "1", "d", "4")
	n := snapped(t, s)
	broken(t, d, 3) // the second page of c's chain
	for _, last := range []string{"Commit", "Abort"} {
		x := begun(t, s)
		_, _, e := x.Get("c")
		is(t, "a broken chain", e, api.ErrSum)
		_, e = s.Begin()
		is(t, "it is open yet", e, api.ErrOpen)
		if last == "Commit" {
			is(t, "Commit", s.Commit(0), api.ErrSum)
		} else {
			is(t, "Abort", s.Abort(), api.OK)
		}
		ended(t, "dead by a broken page", s, x)
		is(t, "it isn't lost", s.Err(), api.OK)
	}
	x := begun(t, s)
	d.Fuse(0)
	d.Sync()
	_, _, e := x.Get("a")
	is(t, "no power", e, api.ErrPower)
	is(t, "Commit", s.Commit(0), api.ErrPower)
	ended(t, "dead without power", s, x)
	is(t, "it isn't lost", s.Err(), api.OK)
	d.Crash(nil)
	v, there, e := s.Now().Get("a")
	is(t, "it goes on", v == "1" && there && e == api.OK, true)
	v, _, e = view(t, s, n).Get("d")
	is(t, "its snapshot, too", v == "4" && e == api.OK, true)
}

// Wherever in a Commit the power goes, the store is lost; opened anew it has what was, or what was being committed.
func TestLost(t *testing.T) {
	for fuse := range 6 {
		d, s := made(t, 60)
		commit(t, s, 1, "a", "1")
		n := snapped(t, s)
		commit(t, s, 2, "b", text(500))
		base := s.Base()
		x := begun(t, s)
		put(t, x, "b", text(600))
		d.Fuse(fuse)
		is(t, "Commit", s.Commit(3), api.ErrPower)
		is(t, "it has ended", x.Err(), api.ErrClosed)
		lost(t, "no power", s, api.ErrPower, base, n)
		is(t, "the oldest", s.Oldest(), 2)
		d.Crash(nil)
		lost(t, "with power again", s, api.ErrPower, base, n)
		again := opened(t, d)
		same(t, "opened anew", again.Base(), base)
		tells(t, "opened anew", again.Now(), map[string]string{"a": "1", "b": text(500)})
	}
	d, s := made(t, 60)
	x := begun(t, s)
	put(t, x, "a", "1")
	d.Fuse(0)
	d.Sync()
	is(t, "the power had gone, and nobody knew", s.Commit(0), api.ErrPower)
	lost(t, "the power had gone", s, api.ErrPower, txn.Base{Root: meta.First()})
}

// Behind the greatest number there is no other one: that isn't a page's error, nor one by which it was dead.
func TestLostByTheNumber(t *testing.T) {
	d, s := made(t, 20)
	is(t, "a root", s.Pager().Commit(meta.Root{Tx: math.MaxUint64 - 1, High: 2}, 0), api.OK)
	s = opened(t, d)
	commit(t, s, 5, "a", "1")
	is(t, "the greatest", s.Base().Root.Tx, math.MaxUint64)
	is(t, "the oldest", s.Oldest(), math.MaxUint64)
	x, e := s.Begin()
	is(t, "Begin", e, api.OK)
	is(t, "a wrong clock goes ahead", s.Commit(1<<40+1), api.ErrTime)
	is(t, "it isn't lost", s.Err(), api.OK)
	base := s.Base()
	is(t, "Commit", s.Commit(0), api.ErrRange)
	is(t, "it has ended", x.Err(), api.ErrClosed)
	lost(t, "no number", s, api.ErrRange, base)
}

// A ledger that tells a page which the disk hasn't: it is taken for the new ledger, and can't be written.
func TestLostByAPage(t *testing.T) {
	d, s := made(t, 20)
	frames, e := ledger.Frames([]ledger.Entry{{Tx: 1, Page: 18}, {Tx: 1, Page: 50}}, []uint32{2}, 4)
	is(t, "Frames", e, api.OK)
	is(t, "Save", s.Pager().Save(frames[0]), api.OK)
	is(t, "a root", s.Pager().Commit(meta.Root{Tx: 4, Free: 2, High: 51}, 0), api.OK)
	s, e = store.Open(d)
	is(t, "Open", e, api.OK)
	base := s.Base()
	x := begun(t, s)
	put(t, x, "a", "1")
	is(t, "Commit", s.Commit(0), api.ErrPage)
	is(t, "it has ended", x.Err(), api.ErrClosed)
	lost(t, "a page that isn't there", s, api.ErrPage, base)
}

func TestWhatIsToldIsNewMemory(t *testing.T) {
	_, s := made(t, 60)
	for i := range 5 {
		commit(t, s, 0, "a", strconv.Itoa(i))
	}
	b, want := s.Base(), s.Base()
	is(t, "there are entries, and pages", len(b.Free) > 0 && len(b.Pages) > 0, true)
	for i := range b.Free {
		b.Free[i] = ledger.Entry{Tx: 9, Page: 9}
	}
	b.Pages[0] = 9
	same(t, "the base", s.Base(), want)
	for range 3 {
		n := snapped(t, s)
		commit(t, s, 0, "a", strconv.Itoa(n))
	}
	numbers := s.Snaps()
	numbers[1] = 77
	list(t, "the snapshots", s.Snaps(), []int{1, 2, 3})
	v := view(t, s, 1)
	is(t, "no view is told twice", v != view(t, s, 1) && s.Now() != s.Now(), true)
	*v = *s.Now()
	tells(t, "a snapshot, whatever is done to its view", view(t, s, 1), map[string]string{"a": "4"})
}

// What was written is told by a frame's transaction: a page that a snapshot reads isn't written over.
func TestPagesOfASnapshotStay(t *testing.T) {
	d, s := made(t, 16)
	commit(t, s, 0, "a", text(9000))
	n := snapped(t, s)
	for i := range 3 {
		commit(t, s, 0, "b", strconv.Itoa(i))
	}
	x := begun(t, s)
	is(t, "Cut", func() bool { there, e := x.Cut("a"); return there && e == api.OK }(), true)
	is(t, "Commit", s.Commit(0), api.OK)
	x = begun(t, s)
	is(t, "its pages aren't free", x.Put("c", text(9000)), api.ErrFull)
	is(t, "Abort", s.Abort(), api.OK)
	tells(t, "the snapshot", view(t, s, n), map[string]string{"a": text(9000)})
	for id := uint32(2); id <= 5; id++ {
		f, e := s.Pager().Load(id, page.Chain, page.Leaf)
		is(t, "its page", e == api.OK && f.Tx == 2, true)
	}
	is(t, "Close", s.Close(n), api.OK)
	commit(t, s, 0, "c", text(9000))
	tells(t, "its pages are free", s.Now(), map[string]string{"b": "2", "c": text(9000)})
	tells(t, "opened anew", opened(t, d).Now(), map[string]string{"b": "2", "c": text(9000)})
}

func TestNil(t *testing.T) {
	for _, s := range []*store.Store{nil, new(store.Store)} {
		lost(t, "no store", s, api.ErrNil, txn.Base{})
		is(t, "Oldest", s.Oldest(), 0)
		is(t, "Pager", s.Pager() == nil, true)
	}
}
