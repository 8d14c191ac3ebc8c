package store_test

import (
	"maps"
	"math/rand/v2"
	"slices"
	"strconv"
	"testing"

	"taproot/api"
	"taproot/disk"
	"taproot/store"
	"taproot/txn"
)

// model is a store that is held against maps.
type model struct {
	t     *testing.T
	r     *rand.Rand
	d     *disk.Disk
	s     *store.Store
	has   map[string]string
	snaps map[int]map[string]string
	last  int
	full  int // how often no page was left
	olds  int // how often there was the old base behind a crash
	news  int
}

func start(t *testing.T, pages int, seed uint64) *model {
	t.Helper()
	d, s := made(t, pages)
	return &model{t: t, r: rand.New(rand.NewPCG(seed, 16)), d: d, s: s, has: map[string]string{}, snaps: map[int]map[string]string{}}
}

// fill changes pairs of a transaction by chance, till it is dead, perhaps.
func (m *model) fill(x *txn.Txn, has map[string]string) {
	for range m.r.IntN(30) {
		key := strconv.Itoa(m.r.IntN(80))
		if m.r.IntN(3) == 0 {
			if _, e := x.Cut(key); e == api.OK {
				delete(has, key)
			}
			continue
		}
		value := text(m.r.IntN(600))
		if m.r.IntN(6) == 0 {
			value = text(m.r.IntN(9000))
		}
		if x.Put(key, value) == api.OK {
			has[key] = value
		}
	}
}

// commit does a transaction, to whatever end.
func (m *model) commit() {
	m.t.Helper()
	x := begun(m.t, m.s)
	has := maps.Clone(m.has)
	m.fill(x, has)
	if m.r.IntN(5) == 0 {
		is(m.t, "Abort", m.s.Abort(), api.OK)
		return
	}
	base := m.s.Base()
	switch e := m.s.Commit(m.r.Uint64N(1 << 40)); e {
	case api.OK:
		m.has = has
	case api.ErrFull:
		m.full++
		same(m.t, "without a page", m.s.Base(), base)
	default:
		m.t.Fatalf("Commit: %v", e)
	}
	ended(m.t, "behind it", m.s, x)
}

// look takes a snapshot, or closes one.
func (m *model) look() {
	m.t.Helper()
	switch m.r.IntN(5) {
	case 0:
		m.last++
		is(m.t, "its number", snapped(m.t, m.s), m.last)
		m.snaps[m.last] = m.has
	case 1, 2:
		if numbers := m.s.Snaps(); len(numbers) > 0 {
			n := numbers[m.r.IntN(len(numbers))]
			is(m.t, "Close", m.s.Close(n), api.OK)
			delete(m.snaps, n)
		}
	}
}

// hold wants the store to be as the maps are.
func (m *model) hold() {
	m.t.Helper()
	is(m.t, "it isn't lost", m.s.Err(), api.OK)
	tells(m.t, "the base", m.s.Now(), m.has)
	numbers := slices.Sorted(maps.Keys(m.snaps))
	list(m.t, "the snapshots", m.s.Snaps(), numbers)
	oldest := m.s.Base().Root.Tx
	for _, n := range numbers {
		v := view(m.t, m.s, n)
		tells(m.t, "a snapshot", v, m.snaps[n])
		oldest = min(oldest, v.Tx())
	}
	is(m.t, "the oldest", m.s.Oldest(), oldest)
	lasting(m.t, m.s)
}

// crash lets the power go in a Commit, or behind it, and opens the store anew.
func (m *model) crash() {
	m.t.Helper()
	x := begun(m.t, m.s)
	has, base := maps.Clone(m.has), m.s.Base()
	m.fill(x, has)
	m.d.Fuse(m.r.IntN(m.r.IntN(40) + 1))
	dead := x.Err()
	e := m.s.Commit(3)
	if e == api.ErrPower {
		lost(m.t, "without power", m.s, e, base, slices.Sorted(maps.Keys(m.snaps))...)
	}
	fates := make([]api.Fate, len(m.d.Waits()))
	for i := range fates {
		fates[i] = api.Fate{Kind: m.r.IntN(3), Cut: m.r.IntN(513)}
	}
	m.d.Crash(fates)
	m.s = opened(m.t, m.d)
	if m.s.Base().Root.Tx == base.Root.Tx {
		m.olds++
		same(m.t, "the old base", m.s.Base(), base)
		is(m.t, "it wasn't committed", e != api.OK, true)
	} else {
		m.news++
		m.has = has
		is(m.t, "it was committed, or being", dead == api.OK && (e == api.OK || e == api.ErrPower), true)
	}
	m.snaps, m.last = map[int]map[string]string{}, 0
}

func TestByChance(t *testing.T) {
	full := 0
	for seed, pages := range []int{4, 8, 20, 60, 400} {
		m := start(t, pages, uint64(seed))
		for range 120 {
			m.commit()
			m.look()
			m.hold()
		}
		full += m.full
	}
	is(t, "often there was no page", full > 50, true)
}

func TestCrashesByChance(t *testing.T) {
	olds, news := 0, 0
	for seed := range uint64(12) {
		m := start(t, 90, seed)
		for range 25 {
			m.commit()
			m.look()
			if m.r.IntN(2) == 0 {
				m.crash()
			}
			m.hold()
		}
		olds, news = olds+m.olds, news+m.news
	}
	is(t, "both were there", olds > 20 && news > 20, true)
}
