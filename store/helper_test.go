package store_test

import (
	"iter"
	"maps"
	"slices"
	"testing"

	"taproot/api"
	"taproot/check"
	"taproot/disk"
	"taproot/store"
	"taproot/txn"
)

func is[T comparable](t *testing.T, what string, got, want T) {
	t.Helper()
	if got != want {
		t.Errorf("%s: %v, wanted %v", what, got, want)
	}
}

// list wants a list of just these things.
func list[T comparable](t *testing.T, what string, got, want []T) {
	t.Helper()
	if !slices.Equal(got, want) {
		t.Errorf("%s: %v, wanted %v", what, got, want)
	}
}

// text is one of so many bytes.
func text(long int) string {
	b := make([]byte, long)
	for i := range b {
		b[i] = byte(i*7 + i/256)
	}
	return string(b)
}

// made is a disk, and a store on it.
func made(t *testing.T, pages int) (*disk.Disk, *store.Store) {
	t.Helper()
	d, e := disk.New(pages)
	is(t, "disk.New", e, api.OK)
	return d, opened(t, d)
}

// opened is a store on a disk, without snapshots, on what the disk has.
func opened(t *testing.T, d *disk.Disk) *store.Store {
	t.Helper()
	s, e := store.Open(d)
	is(t, "Open", e, api.OK)
	is(t, "Open: Err", s.Err(), api.OK)
	list(t, "Open: Snaps", s.Snaps(), nil)
	lasting(t, s)
	return s
}

// lasting wants the disk to have the store's base, each page of which is one thing.
func lasting(t *testing.T, s *store.Store) {
	t.Helper()
	b, e := txn.Load(s.Pager())
	is(t, "Load", e, api.OK)
	same(t, "what the disk has", s.Base(), b)
	r, e := check.Of(s.Pager(), b)
	is(t, "check", e, api.OK)
	is(t, "nothing is lost, nothing twice", r.Whole(), true)
}

// begun is a transaction that is open.
func begun(t *testing.T, s *store.Store) *txn.Txn {
	t.Helper()
	x, e := s.Begin()
	is(t, "Begin", e, api.OK)
	is(t, "Begin: it lives", x.Err(), api.OK)
	is(t, "Begin: its number", x.Tx(), s.Base().Root.Tx+1)
	return x
}

// put puts pairs: key, value, key, value ..
func put(t *testing.T, x *txn.Txn, pairs ...string) {
	t.Helper()
	for i := 0; i < len(pairs); i += 2 {
		is(t, "Put", x.Put(pairs[i], pairs[i+1]), api.OK)
	}
}

// commit commits pairs.
func commit(t *testing.T, s *store.Store, clock uint64, pairs ...string) {
	t.Helper()
	x := begun(t, s)
	put(t, x, pairs...)
	is(t, "Commit", s.Commit(clock), api.OK)
	ended(t, "behind a Commit", s, x)
	is(t, "the clock", s.Base().Root.Clock, clock)
	lasting(t, s)
}

// ended wants a transaction to have ended, and none to be open.
func ended(t *testing.T, what string, s *store.Store, x *txn.Txn) {
	t.Helper()
	is(t, what+": it has ended", x.Err(), api.ErrClosed)
	is(t, what+": none is open to be committed", s.Commit(0), api.ErrNone)
	is(t, what+": none is open to be aborted", s.Abort(), api.ErrNone)
}

// snapped is the number of a new snapshot.
func snapped(t *testing.T, s *store.Store) int {
	t.Helper()
	n, e := s.Snap()
	is(t, "Snap", e, api.OK)
	return n
}

// view is a snapshot's.
func view(t *testing.T, s *store.Store, n int) *txn.View {
	t.Helper()
	v, e := s.Snapped(n)
	is(t, "Snapped", e, api.OK)
	return v
}

// same wants two bases to be one.
func same(t *testing.T, what string, got, want txn.Base) {
	t.Helper()
	is(t, what+": the root", got.Root, want.Root)
	is(t, what+": the place", got.Place, want.Place)
	list(t, what+": the entries", got.Free, want.Free)
	list(t, what+": the ledger's pages", got.Pages, want.Pages)
}

// reader is a view, or a transaction.
type reader interface {
	Get(key string) (string, bool, api.Errno)
	Range(from, to string) iter.Seq2[api.Pair, api.Errno]
}

// tells wants a reader to have just these pairs.
func tells(t *testing.T, what string, r reader, want map[string]string) {
	t.Helper()
	got := map[string]string{}
	for x, e := range r.Range("", "") {
		is(t, what+": its row", e, api.OK)
		got[x.Key] = x.Value
	}
	is(t, what, maps.Equal(got, want), true)
	for key, value := range want {
		v, there, e := r.Get(key)
		is(t, what+": Get", v == value && there && e == api.OK, true)
	}
}

// lost wants all calls of a store to answer that error, but those which answer as ever.
func lost(t *testing.T, what string, s *store.Store, want api.Errno, base txn.Base, snaps ...int) {
	t.Helper()
	p := s.Pager()
	for range 2 { // whatever was asked of it
		x, e := s.Begin()
		is(t, what+": Begin", x == nil && e == want, true)
		for _, clock := range []uint64{0, 1<<40 + 1} {
			is(t, what+": Commit", s.Commit(clock), want)
		}
		is(t, what+": Abort", s.Abort(), want)
		is(t, what+": Now", s.Now() == nil, true)
		n, e := s.Snap()
		is(t, what+": Snap", n == 0 && e == want, true)
		for _, n := range append([]int{-1, 0, 1, 99}, snaps...) {
			v, e := s.Snapped(n)
			is(t, what+": Snapped", v == nil && e == want, true)
			is(t, what+": Close", s.Close(n), want)
		}
		is(t, what+": Err", s.Err(), want)
		list(t, what+": Snaps", s.Snaps(), snaps)
		same(t, what+": Base", s.Base(), base)
		is(t, what+": Pager", s.Pager(), p)
	}
}
