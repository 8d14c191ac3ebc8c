package lease_test

import (
	"cmp"
	"maps"
	"math"
	"math/rand/v2"
	"slices"
	"testing"

	"taproot/lease"
)

// model is till when keys are lent.
type model map[lease.Key]uint64

// list is what a table has that has the same.
func (m model) list() []lent[lease.Key] {
	var l []lent[lease.Key]
	for k, until := range m {
		l = append(l, lent[lease.Key]{k, until})
	}
	slices.SortFunc(l, func(a, b lent[lease.Key]) int {
		return cmp.Or(cmp.Compare(a.until, b.until), cmp.Compare(a.k.Queue, b.k.Queue), cmp.Compare(a.k.ID, b.k.ID))
	})
	return l
}

// step changes a table, and the model.
func step(t *testing.T, d *rand.Rand, x lease.Table[lease.Key], m model) (lease.Table[lease.Key], model) {
	t.Helper()
	m = maps.Clone(m)
	k := lease.Key{Queue: []string{"a", "b", "aa"}[d.IntN(3)], ID: d.Uint64N(12)}
	switch d.IntN(12) {
	case 0:
		now := d.Uint64N(8)
		due, y := x.Due(now)
		n := 0
		for _, l := range m.list() {
			if l.until <= now {
				is(t, "due", n < len(due) && due[n] == l.k, true)
				delete(m, l.k)
				n++
			}
		}
		is(t, "no more are due", len(due), n)
		return y, m
	case 1:
		so := func(k lease.Key) bool { return k.ID%5 != 0 }
		maps.DeleteFunc(m, func(k lease.Key, _ uint64) bool { return !so(k) })
		return x.Keep(so), m
	case 2, 3, 4:
		delete(m, k)
		return x.Free(k), m
	}
	m[k] = d.Uint64N(20)
	return x.Lend(k, m[k]), m
}

// Tables against the model; and all that were answered ahead stay, whichever of them goes on.
func TestByChance(t *testing.T) {
	for seed := range uint64(20) {
		d := rand.New(rand.NewPCG(23, seed))
		tables, models := []lease.Table[lease.Key]{lease.Keys()}, []model{{}}
		most := 0
		for range 300 {
			at := len(tables) - 1
			if d.IntN(10) == 0 {
				at = d.IntN(len(tables))
			}
			x, m := step(t, d, tables[at], models[at])
			has(t, "what it should", x, m.list()...)
			gone(t, x, lease.Key{Queue: "c", ID: d.Uint64N(12)})
			tables, models = append(tables, x), append(models, m)
			most = max(most, len(m))
		}
		for i, x := range tables {
			has(t, "what was ahead", x, models[i].list()...)
		}
		if most < 10 {
			t.Errorf("chance made too little: %d", most)
		}
		if t.Failed() {
			t.FailNow()
		}
	}
}

// times wants a table's times to rise, and its things to be these.
func times(t *testing.T, what string, x lease.Table[int], want map[int]uint64) {
	t.Helper()
	l := list(x)
	is(t, what+": by their times", slices.IsSortedFunc(l, func(a, b lent[int]) int { return cmp.Compare(a.until, b.until) }), true)
	is(t, what+": how many", len(l) == len(want) && x.Len() == len(want), true)
	for _, l := range l {
		until, there := want[l.k]
		is(t, what+": lent", there, true)
		is(t, what+": till when", l.until, until)
	}
	for k, until := range want {
		got, there := x.Until(k)
		is(t, what+": found", there, true)
		is(t, what+": till when", got, until)
	}
}

// Without a function, or with one that is wrong, the order of one time isn't promised; all else is.
func TestWrongFunctions(t *testing.T) {
	dice := rand.New(rand.NewPCG(1, 1))
	functions := map[string]func(a, b int) int{
		"none":             nil,
		"one that panics":  func(a, b int) int { panic("compare") },
		"one at times":     func(a, b int) int { return 100 / (a - b - 3) },
		"all are the same": func(a, b int) int { return 0 },
		"always behind":    func(a, b int) int { return math.MaxInt },
		"always ahead":     func(a, b int) int { return math.MinInt },
		"any":              func(a, b int) int { return dice.IntN(3) - 1 },
	}
	for what, f := range functions {
		d := rand.New(rand.NewPCG(2, 2))
		x, y, m := lease.New(f), lease.Table[int]{}, map[int]uint64{}
		for range 300 {
			k := d.IntN(30)
			if d.IntN(3) == 0 {
				delete(m, k)
				x, y = x.Free(k), y.Free(k)
			} else {
				m[k] = d.Uint64N(4)
				x, y = x.Lend(k, m[k]), y.Lend(k, m[k])
			}
			times(t, what, x, m)
			times(t, "the zero table", y, m)
			if what == "none" {
				has(t, "alike, whenever it is asked", x, list(y)...)
			}
		}
		due, left := x.Due(1)
		maps.DeleteFunc(m, func(_ int, until uint64) bool { return until <= 1 })
		is(t, what+": due", len(due)+len(m), x.Len())
		times(t, what+": the others", left, m)
		times(t, what+": kept", left.Keep(nil), m)
		if t.Failed() {
			t.FailNow()
		}
	}
}

// Things that can't be compared, though their sort can, don't make a call panic, and hide no others.
func TestThingsThatCantBeCompared(t *testing.T) {
	bad := any([]int{1})
	x := lease.New(func(a, b any) int { return 0 })
	x = x.Lend(1, 5).Lend(bad, 4).Lend("a", 6).Lend(bad, 7).Lend(2, 3)
	gone(t, x, bad)
	gone(t, x.Free(bad), bad)
	for k, until := range map[any]uint64{1: 5, "a": 6, 2: 3} {
		got, there := x.Until(k)
		is(t, "there", there && got == until, true)
		gone(t, x.Free(k), k)
	}
	due, left := x.Due(math.MaxUint64)
	is(t, "all are due", len(due), x.Len())
	is(t, "none is left", left.Len(), 0)
	is(t, "those alone that can", x.Keep(func(k any) bool { _, bad := k.([]int); return !bad }).Len(), 3)
	y := lease.New(cmp.Compare[float64]).Lend(math.NaN(), 5).Lend(1, 5).Lend(2, 4).Free(math.NaN())
	gone(t, y, math.NaN())
	for k, until := range map[float64]uint64{1: 5, 2: 4} {
		got, there := y.Until(k)
		is(t, "there", there && got == until, true)
	}
}

// A table goes through as many things as there are.
func TestManyThings(t *testing.T) {
	x := lease.Keys()
	const n = 2000
	for i := range uint64(n) {
		x = x.Lend(lease.Key{Queue: "a", ID: i * 7919 % n}, i%3)
	}
	is(t, "how many", x.Len(), n)
	is(t, "in their order", slices.IsSortedFunc(list(x), func(a, b lent[lease.Key]) int {
		return cmp.Or(cmp.Compare(a.until, b.until), lease.Compare(a.k, b.k))
	}), true)
	due, left := x.Due(1)
	is(t, "due, and left", len(due)+left.Len(), n)
}
