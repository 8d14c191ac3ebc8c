package txn_test

import (
	"maps"
	"math/rand/v2"
	"slices"
	"strconv"
	"testing"

	"taproot/api"
	"taproot/disk"
	"taproot/pager"
	"taproot/txn"
)

// model is a disk whose transactions are held against maps.
type model struct {
	t    *testing.T
	r    *rand.Rand
	d    *disk.Disk
	p    *pager.Pager
	long int // a value's bytes, at most
	base txn.Base
	has  map[string]string
	old  []snapshot // some bases that are read yet
	full int        // how often no page was left
}

// snapshot is what a base has.
type snapshot struct {
	v   *txn.View
	tx  uint64
	has map[string]string
}

func start(t *testing.T, pages, long int, seed uint64) *model {
	t.Helper()
	d, p, b := begun(t, pages)
	return &model{t: t, r: rand.New(rand.NewPCG(seed, 15)), d: d, p: p, long: long, base: b, has: map[string]string{}}
}

// oldest is the least number of all that is read yet.
func (m *model) oldest() uint64 {
	oldest := m.base.Root.Tx
	for _, s := range m.old {
		oldest = min(oldest, s.tx)
	}
	return oldest
}

// key is one by chance, often one that is there.
func (m *model) key() string {
	if m.r.IntN(10) == 0 {
		return strconv.Itoa(m.r.IntN(60)) + x(m.r.IntN(250))
	}
	return strconv.Itoa(m.r.IntN(60))
}

// value is one by chance.
func (m *model) value() string {
	switch m.r.IntN(4) {
	case 0:
		return text(m.r.IntN(m.long + 1))
	case 1:
		return text(399 + m.r.IntN(4))
	}
	return text(m.r.IntN(100))
}

// change changes a pair by chance, and wants the answer. Does the transaction live?
func (m *model) change(y *txn.Txn, has map[string]string) bool {
	m.t.Helper()
	key, value := m.key(), m.value()
	if m.r.IntN(3) == 0 {
		_, had := has[key]
		there, e := y.Cut(key)
		if e == api.OK {
			is(m.t, "Cut: was it there?", there, had)
			delete(has, key)
		}
		return m.lives(y, e)
	}
	e := y.Put(key, value)
	if e == api.OK {
		is(m.t, "behind a Put", y.Changed(), true)
		has[key] = value
	}
	return m.lives(y, e)
}

// lives wants what was answered to be OK, or ErrFull with no page left.
func (m *model) lives(y *txn.Txn, e api.Errno) bool {
	m.t.Helper()
	is(m.t, "what it is dead by", y.Err(), e)
	if e == api.OK {
		return true
	}
	is(m.t, "the error", e, api.ErrFull)
	is(m.t, "pages that are left", y.Left(), 0)
	m.full++
	return false
}

// run does a transaction by chance, up to its end: the transaction, what it has then, and whether it lives.
func (m *model) run() (*txn.Txn, map[string]string, bool) {
	m.t.Helper()
	y := txn.Begin(m.p, m.base, m.oldest())
	has := maps.Clone(m.has)
	for range m.r.IntN(40) {
		if !m.change(y, has) {
			return y, has, false
		}
	}
	if m.r.IntN(4) == 0 {
		tells(m.t, "the transaction", y, has)
	}
	return y, has, true
}

// step does a transaction, and commits it, or not.
func (m *model) step() {
	m.t.Helper()
	steps := m.d.Steps()
	y, has, ok := m.run()
	is(m.t, "nothing is written ahead of a Commit", m.d.Steps(), steps)
	if !ok || m.r.IntN(5) == 0 {
		y.Abort()
		same(m.t, "behind an Abort", loaded(m.t, m.p), m.base)
		return
	}
	was := m.p.Count()
	b, e := y.Commit(m.r.Uint64N(1 << 40))
	if e != api.OK {
		m.lives(y, e)
		is(m.t, "nothing is written without a page", m.d.Steps(), steps)
		return
	}
	counted(m.t, m.p, was, b)
	same(m.t, "behind a Commit", loaded(m.t, m.p), b)
	whole(m.t, m.p, b)
	m.base, m.has = b, has
}

// look takes a snapshot, or lets one go.
func (m *model) look() {
	switch m.r.IntN(6) {
	case 0:
		m.old = append(m.old, snapshot{txn.Look(m.p, m.base), m.base.Root.Tx, m.has})
	case 1, 2:
		if len(m.old) > 0 {
			at := m.r.IntN(len(m.old))
			m.old = slices.Delete(m.old, at, at+1)
		}
	}
	for _, s := range m.old {
		tells(m.t, "a snapshot", s.v, s.has)
	}
	tells(m.t, "the base", txn.Look(m.p, m.base), m.has)
}

func TestByChance(t *testing.T) {
	full := 0
	for seed, w := range []struct{ pages, long int }{{4, 500}, {6, 4000}, {12, 9000}, {40, 9000}, {40, 400}, {120, 65536}, {600, 20000}} {
		m := start(t, w.pages, w.long, uint64(seed))
		for range 60 {
			m.step()
			m.look()
		}
		full += m.full
	}
	is(t, "often there was no page", full > 50, true)
}

// fates are some by chance, of so many sectors.
func (m *model) fates(sectors int) []api.Fate {
	l := make([]api.Fate, sectors)
	for i := range l {
		l[i] = api.Fate{Kind: m.r.IntN(3), Cut: m.r.IntN(513)}
	}
	return l
}

// Wherever the power goes, and whatever becomes of what wasn't synced, there is the old base or the new one, whole.
func TestCrashes(t *testing.T) {
	olds, news := 0, 0
	for seed := range uint64(250) {
		m := start(t, 60, 9000, seed)
		for range 2 + seed%5 {
			m.step()
		}
		y, has, ok := m.run()
		if !ok {
			continue
		}
		m.d.Fuse(m.r.IntN(m.r.IntN(60) + 1))
		b, e := y.Commit(7)
		m.d.Crash(m.fates(len(m.d.Waits())))
		now := loaded(t, m.p)
		if now.Root.Tx == m.base.Root.Tx {
			olds++
			is(t, "the old base, and no OK", e != api.OK, true)
			same(t, "the old base", now, m.base)
			tells(t, "the old base", txn.Look(m.p, now), m.has)
		} else {
			news++
			tells(t, "the new base", txn.Look(m.p, now), has)
		}
		if e == api.OK {
			same(t, "what was committed", now, b)
		}
		whole(t, m.p, now)
	}
	is(t, "both were there", olds > 20 && news > 20, true)
}

// The power goes in the last step of all: the root was written, and not synced.
func TestCrashesOfTheRoot(t *testing.T) {
	ids, b := order(t)
	r := rand.New(rand.NewPCG(1, 1))
	olds, news := 0, 0
	for i := range 200 {
		d, p, old, y := ready(t)
		d.Fuse(len(ids) + 2)
		_, e := y.Commit(9)
		is(t, "Commit", e, api.ErrPower)
		fates := make([]api.Fate, 8)
		for at := range fates {
			fates[at] = api.Fate{Kind: r.IntN(3), Cut: r.IntN(513)}
		}
		if i%2 == 0 {
			fates[0] = api.Fate{Kind: 1}
		}
		d.Crash(fates)
		now := loaded(t, p)
		if now.Root == b.Root {
			same(t, "the new base", now, b)
			news++
		} else {
			same(t, "the old base", now, old)
			olds++
		}
		whole(t, p, now)
	}
	is(t, "both were there", olds > 20 && news > 20, true)
}
