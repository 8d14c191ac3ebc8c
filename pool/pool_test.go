package pool_test

import (
	"cmp"
	"iter"
	"maps"
	"math"
	"math/rand/v2"
	"slices"
	"strconv"
	"strings"
	"testing"

	"taproot/api"
	"taproot/pool"
)

func is[T comparable](t *testing.T, what string, got, want T) {
	t.Helper()
	if got != want {
		t.Errorf("%s: %v, wanted %v", what, got, want)
	}
}

// row wants a row of just these things.
func row[T cmp.Ordered](t *testing.T, what string, got iter.Seq[T], want ...T) {
	t.Helper()
	if got == nil {
		t.Errorf("%s: no row at all", what)
		return
	}
	if l := slices.Collect(got); !slices.Equal(l, want) {
		t.Errorf("%s: %v, wanted %v", what, l, want)
	}
}

// has wants a set of just these things, which rise, whichever way it is asked.
func has[T cmp.Ordered](t *testing.T, what string, s *pool.Sorted[T], want ...T) {
	t.Helper()
	row(t, what+": All", s.All(), want...)
	down := slices.Clone(want)
	slices.Reverse(down)
	row(t, what+": Down", s.Down(), down...)
	is(t, what+": Len", s.Len(), len(want))
	var first T
	if len(want) > 0 {
		first = want[0]
	}
	least, ok := s.Least()
	is(t, what+": Least", least, first)
	is(t, what+": is there a least one", ok, len(want) > 0)
	for i, x := range want {
		is(t, what+": Has", s.Has(x), true)
		row(t, what+": From", s.From(x), want[i:]...)
	}
}

func TestSetsOfSome(t *testing.T) {
	has(t, "of none", pool.Of[int]())
	has(t, "of one", pool.Of(7), 7)
	has(t, "of some", pool.Of(3, 1, 2), 1, 2, 3)
	has(t, "of the same", pool.Of(2, 1, 2, 1, 1, 3, 2), 1, 2, 3)
	has(t, "of the ends", pool.Of[int64](math.MaxInt64, 0, math.MinInt64), math.MinInt64, 0, math.MaxInt64)
	has(t, "of small numbers", pool.Of[uint8](255, 0, 128, 255), 0, 128, 255)
	has(t, "of texts", pool.Of("b", "", "ab", "a", "\xff", "a\x00", "b"), "", "a", "a\x00", "ab", "b", "\xff")
	type name string
	has(t, "of a sort of texts", pool.Of[name]("b", "a"), "a", "b")
	is(t, "of none there is a set", pool.Of[int]() != nil, true)
	all := make([]uint8, 0, 512)
	for i := range 512 {
		all = append(all, uint8(i*37))
	}
	every := pool.Of(all...)
	is(t, "of all numbers of a byte", every.Len(), 256)
	is(t, "All comes to its end", len(slices.Collect(every.All())), 256)
	is(t, "Down, too", len(slices.Collect(every.Down())), 256)
}

func TestListsStay(t *testing.T) {
	spare := []int{3, 1, 2, 3, 50, 60}
	l := spare[:4]
	s := pool.Of(l...)
	s.Add(9)
	s.Remove(1)
	is(t, "the list and its room", slices.Equal(spare, []int{3, 1, 2, 3, 50, 60}), true)
	for i := range spare {
		spare[i] = 100
	}
	has(t, "a list that is changed later", s, 2, 3, 9)
	empty := spare[:0]
	of := pool.Of(empty...)
	of.Add(7)
	is(t, "the room behind an empty list", spare[0], 100)
	has(t, "of an empty list", of, 7)
}

func TestAddAndRemove(t *testing.T) {
	s := pool.Of[string]()
	for _, w := range []struct {
		x    string
		want bool
	}{{"m", true}, {"m", false}, {"a", true}, {"z", true}, {"", true}, {"a", false}, {"", false}, {"n", true}} {
		is(t, "Add of "+strconv.Quote(w.x), s.Add(w.x), w.want)
		is(t, "it is there", s.Has(w.x), true)
	}
	has(t, "what was added", s, "", "a", "m", "n", "z")
	for _, w := range []struct {
		x    string
		want bool
	}{{"b", false}, {"m", true}, {"m", false}, {"", true}, {"z", true}, {"zz", false}} {
		is(t, "Remove of "+strconv.Quote(w.x), s.Remove(w.x), w.want)
		is(t, "it isn't there", s.Has(w.x), false)
	}
	has(t, "what is left", s, "a", "n")
	is(t, "Remove of the last but one", s.Remove("n"), true)
	is(t, "Remove of the last", s.Remove("a"), true)
	has(t, "nothing is left", s)
	is(t, "of an empty one", s.Remove("a"), false)
	is(t, "Add again", s.Add("a"), true)
	has(t, "it is there again", s, "a")
}

func TestFrom(t *testing.T) {
	s := pool.Of[uint8](2, 5, 9, 255)
	row(t, "below all", s.From(0), 2, 5, 9, 255)
	row(t, "the first", s.From(2), 2, 5, 9, 255)
	row(t, "between", s.From(3), 5, 9, 255)
	row(t, "one of them", s.From(9), 9, 255)
	row(t, "behind it", s.From(10), 255)
	row(t, "the end", s.From(255), 255)
	s.Remove(255)
	row(t, "above all", s.From(255))
	row(t, "of an empty one", pool.Of[uint8]().From(0))
	row(t, "of texts", pool.Of("a", "ab", "b").From("aa"), "ab", "b")
}

func TestRowsAgainAndLeft(t *testing.T) {
	s := pool.Of(1, 2, 3, 4)
	for what, w := range map[string]struct {
		row  iter.Seq[int]
		want []int
	}{"All": {s.All(), []int{1, 2}}, "From": {s.From(2), []int{2, 3}}, "Down": {s.Down(), []int{4, 3}}} {
		for range 2 {
			var l []int
			for x := range w.row {
				if l = append(l, x); len(l) == 2 {
					break
				}
			}
			is(t, what+", left behind two", slices.Equal(l, w.want), true)
		}
	}
	all, from, down := s.All(), s.From(3), s.Down()
	row(t, "All", all, 1, 2, 3, 4)
	s.Add(0)
	s.Add(9)
	s.Remove(3)
	row(t, "All of what is there then", all, 0, 1, 2, 4, 9)
	row(t, "From", from, 4, 9)
	row(t, "Down", down, 9, 4, 2, 1, 0)
	for range all {
		row(t, "a row within a row", all, 0, 1, 2, 4, 9)
		break
	}
}

// during goes through a row of a set, changes it behind one of its things, and tells what the row gave.
func during(s *pool.Sorted[int], r iter.Seq[int], behind int, change func()) []int {
	var l []int
	for x := range r {
		l = append(l, x)
		if x == behind {
			change()
		}
	}
	return l
}

func TestChangesWhileARowIsGoneThrough(t *testing.T) {
	type set = *pool.Sorted[int]
	for _, w := range []struct {
		what      string
		change    func(set)
		all, down []int // of 10, 20, 30, 40, 50, changed behind 30; From is of 20 on
	}{
		{"no change", func(set) {}, []int{10, 20, 30, 40, 50}, []int{50, 40, 30, 20, 10}},
		{"above", func(s set) { s.Add(35); s.Add(60) }, []int{10, 20, 30, 35, 40, 50, 60}, []int{50, 40, 30, 20, 10}},
		{"below", func(s set) { s.Add(25); s.Add(5); s.Add(15) }, []int{10, 20, 30, 40, 50}, []int{50, 40, 30, 25, 20, 15, 10, 5}},
		{"without the neighbours", func(s set) { s.Remove(20); s.Remove(40) }, []int{10, 20, 30, 50}, []int{50, 40, 30, 10}},
		{"without itself", func(s set) { s.Remove(30) }, []int{10, 20, 30, 40, 50}, []int{50, 40, 30, 20, 10}},
		{"without what was reached", func(s set) { s.Remove(10); s.Remove(20); s.Remove(30) }, []int{10, 20, 30, 40, 50}, []int{50, 40, 30}},
		{"without what wasn't", func(s set) { s.Remove(50); s.Remove(40); s.Remove(30) }, []int{10, 20, 30}, []int{50, 40, 30, 20, 10}},
		{"without any", func(s set) {
			for _, x := range []int{10, 20, 30, 40, 50} {
				s.Remove(x)
			}
		}, []int{10, 20, 30}, []int{50, 40, 30}},
		{"all of them others", func(s set) {
			for _, x := range []int{10, 20, 30, 40, 50} {
				s.Remove(x)
				s.Add(x + 1)
			}
		}, []int{10, 20, 30, 31, 41, 51}, []int{50, 40, 30, 21, 11}},
	} {
		s := pool.Of(10, 20, 30, 40, 50)
		is(t, w.what+": All", slices.Equal(during(s, s.All(), 30, func() { w.change(s) }), w.all), true)
		s = pool.Of(10, 20, 30, 40, 50)
		is(t, w.what+": From", slices.Equal(during(s, s.From(20), 30, func() { w.change(s) }), w.all[1:]), true)
		s = pool.Of(10, 20, 30, 40, 50)
		is(t, w.what+": Down", slices.Equal(during(s, s.Down(), 30, func() { w.change(s) }), w.down), true)
	}
}

// Of floating-point numbers nothing is promised but that rows of them end.
func TestRowsOfWhatIsNoNumberEnd(t *testing.T) {
	none := math.NaN()
	s := pool.Of(none, 2, none, 1, none)
	s.Add(none)
	for what, r := range map[string]iter.Seq[float64]{"All": s.All(), "From": s.From(none), "Down": s.Down()} {
		steps := 0
		for range r {
			if steps++; steps > 6 {
				t.Errorf("%s doesn't end", what)
				break
			}
		}
	}
}

func TestCopies(t *testing.T) {
	s := pool.Of(3, 1, 2)
	c := s.Copy()
	has(t, "a copy", c, 1, 2, 3)
	s.Remove(1)
	s.Add(9)
	has(t, "the copy stays", c, 1, 2, 3)
	c.Remove(2)
	c.Add(0)
	c.Add(5)
	has(t, "the copy itself is changed", c, 0, 1, 3, 5)
	has(t, "the other one stays", s, 2, 3, 9)
	e := pool.Of[int]().Copy()
	is(t, "a copy of an empty one is a set", e != nil, true)
	is(t, "Add to it", e.Add(1), true)
	has(t, "it has it", e, 1)
}

func TestOfANilSet(t *testing.T) {
	var s *pool.Sorted[string]
	is(t, "Add", s.Add("a"), false)
	is(t, "Remove", s.Remove("a"), false)
	is(t, "Has", s.Has("a"), false)
	is(t, "Has of the zero one", s.Has(""), false)
	has(t, "nil", s)
	row(t, "From", s.From(""))
	is(t, "Copy", s.Copy() == nil, true)
}

// from are those of some things that aren't below one.
func from(l []int, x int) []int {
	return slices.DeleteFunc(slices.Clone(l), func(y int) bool { return y < x })
}

func TestSetsByChance(t *testing.T) {
	r := rand.New(rand.NewPCG(11, 1))
	s, model := pool.Of[int](), map[int]bool{}
	for range 6000 {
		x := r.IntN(60) - 30
		switch r.IntN(5) {
		case 0, 1:
			is(t, "Add", s.Add(x), !model[x])
			model[x] = true
		case 2, 3:
			is(t, "Remove", s.Remove(x), model[x])
			delete(model, x)
		case 4:
			s = s.Copy()
		}
		want := slices.Sorted(maps.Keys(model))
		is(t, "Has", s.Has(x), model[x])
		row(t, "From", s.From(x), from(want, x)...)
		has(t, "by chance", s, want...)
		if r.IntN(100) == 0 {
			mixed := slices.Concat(want, want[len(want)/2:])
			r.Shuffle(len(mixed), func(i, j int) { mixed[i], mixed[j] = mixed[j], mixed[i] })
			s = pool.Of(mixed...)
		}
		if t.Failed() {
			return
		}
	}
}

// takes wants Takes of these pages, one after the other.
func takes(t *testing.T, what string, p *pool.Pool, want ...uint32) {
	t.Helper()
	for _, w := range want {
		id, e := p.Take()
		is(t, what+": Take", id, w)
		is(t, what+": its error", e, api.OK)
	}
}

// full wants a pool without a page that may be taken, and that asking doesn't change it.
func full(t *testing.T, what string, p *pool.Pool) {
	t.Helper()
	high, taken := p.High(), slices.Collect(p.Taken())
	for range 2 {
		id, e := p.Take()
		is(t, what+": Take of a full one", id, 0)
		is(t, what+": its error", e, api.ErrFull)
	}
	is(t, what+": Left", p.Left(), 0)
	is(t, what+": High stays", p.High(), high)
	row(t, what+": Taken stays", p.Taken(), taken...)
	row(t, what+": Free", p.Free())
}

func TestTheExample(t *testing.T) {
	p := pool.New([]uint32{7, 5}, 9, 10)
	is(t, "Left", p.Left(), 3)
	row(t, "Free", p.Free(), 5, 7)
	row(t, "Taken", p.Taken())
	takes(t, "the example", p, 5, 7, 9)
	full(t, "the example", p)
	row(t, "Taken", p.Taken(), 5, 7, 9)
	is(t, "High", p.High(), 10)
}

func TestTake(t *testing.T) {
	p := pool.New([]uint32{8, 3, 8, 6, 3}, 10, 13)
	row(t, "Free", p.Free(), 3, 6, 8)
	is(t, "Left", p.Left(), 6)
	is(t, "High", p.High(), 10)
	takes(t, "those that are free", p, 3, 6, 8)
	is(t, "the mark stays", p.High(), 10)
	is(t, "Left", p.Left(), 3)
	takes(t, "the mark", p, 10)
	is(t, "the mark is one more", p.High(), 11)
	is(t, "Left", p.Left(), 2)
	takes(t, "the others", p, 11, 12)
	is(t, "the mark", p.High(), 13)
	full(t, "all of them", p)
	is(t, "Give", p.Give(11), api.OK)
	is(t, "Left", p.Left(), 1)
	takes(t, "what was given back", p, 11)
	full(t, "again", p)
}

func TestNewPools(t *testing.T) {
	for _, w := range []struct {
		what        string
		free        []uint32
		high, pages uint32
		want        []uint32
	}{
		{"nothing at all", nil, 0, 0, nil},
		{"a disk of four pages", nil, 2, 4, []uint32{2, 3}},
		{"from 0 on", nil, 0, 3, []uint32{0, 1, 2}},
		{"the mark at the end", nil, 4, 4, nil},
		{"the mark beyond it", nil, 9, 4, nil},
		{"the mark far beyond it", nil, math.MaxUint32, 0, nil},
		{"a free one alone", []uint32{2}, 4, 4, []uint32{2}},
		{"a free one, the mark beyond", []uint32{3}, 9, 4, []uint32{3}},
		{"an empty list", []uint32{}, 2, 3, []uint32{2}},
		{"the last number", nil, math.MaxUint32 - 2, math.MaxUint32, []uint32{math.MaxUint32 - 2, math.MaxUint32 - 1}},
		{"none goes round", nil, math.MaxUint32, math.MaxUint32, nil},
		{"0 and 1", []uint32{1, 0}, 2, 3, []uint32{0, 1, 2}},
		{"no such page", []uint32{20}, 2, 4, []uint32{20, 2, 3}},
		{"the greatest number", []uint32{math.MaxUint32}, 3, 4, []uint32{math.MaxUint32, 3}},
	} {
		p := pool.New(w.free, w.high, w.pages)
		is(t, w.what+": High", p.High(), w.high)
		is(t, w.what+": Left", p.Left(), len(w.want))
		takes(t, w.what, p, w.want...)
		full(t, w.what, p)
	}
	big := pool.New(nil, 2, math.MaxUint32)
	is(t, "Left of many", big.Left(), math.MaxUint32-2)
	takes(t, "of many", big, 2, 3)
	is(t, "Left of one fewer", big.Left(), math.MaxUint32-4)
}

// What is told to be free beyond the mark is taken like all that is free, and the mark passes it over: no page is taken twice.
func TestFreeOnesBeyondTheMark(t *testing.T) {
	p := pool.New([]uint32{7, 3}, 5, 9)
	is(t, "Left", p.Left(), 5)
	row(t, "Free", p.Free(), 3, 7)
	takes(t, "the free ones", p, 3, 7)
	is(t, "the mark", p.High(), 5)
	is(t, "Left", p.Left(), 3)
	takes(t, "the mark's", p, 5, 6)
	is(t, "Left", p.Left(), 1)
	is(t, "Give", p.Give(7), api.OK)
	is(t, "Left of what was given back", p.Left(), 2)
	takes(t, "it, and the one behind it", p, 7, 8)
	is(t, "the mark", p.High(), 9)
	full(t, "beyond the mark", p)
	last := pool.New([]uint32{8}, 8, 9)
	is(t, "Left", last.Left(), 1)
	takes(t, "the last one", last, 8)
	full(t, "the last one", last)
	is(t, "the mark stays", last.High(), 8)
	end := pool.New([]uint32{math.MaxUint32 - 1, math.MaxUint32}, math.MaxUint32-1, math.MaxUint32)
	is(t, "Left at the end of numbers", end.Left(), 2)
	takes(t, "at the end of numbers", end, math.MaxUint32-1, math.MaxUint32)
	full(t, "at the end of numbers", end)
}

func TestGive(t *testing.T) {
	p := pool.New([]uint32{4, 6}, 8, 20)
	for _, id := range []uint32{4, 8, 9, 0, 20, math.MaxUint32} {
		is(t, "Give of one that isn't taken", p.Give(id), api.ErrNone)
	}
	row(t, "Free stays", p.Free(), 4, 6)
	is(t, "Left stays", p.Left(), 14)
	takes(t, "some", p, 4, 6, 8, 9)
	is(t, "Give", p.Give(8), api.OK)
	is(t, "Give again", p.Give(8), api.ErrNone)
	is(t, "Give of the least", p.Give(4), api.OK)
	row(t, "Free", p.Free(), 4, 8)
	row(t, "Taken", p.Taken(), 6, 9)
	is(t, "Left", p.Left(), 12)
	is(t, "the mark stays", p.High(), 10)
	takes(t, "the least ahead of the mark", p, 4, 8, 10)
	row(t, "Taken", p.Taken(), 4, 6, 8, 9, 10)
	is(t, "Give of the mark's", p.Give(10), api.OK)
	is(t, "the mark doesn't go back", p.High(), 11)
	takes(t, "it is taken again", p, 10, 11)
}

func TestListsOfPoolsStay(t *testing.T) {
	spare := []uint32{9, 5, 7, 100, 200}
	p := pool.New(spare[:3], 12, 20)
	takes(t, "the least", p, 5)
	is(t, "Give", p.Give(5), api.OK)
	is(t, "the list and its room", slices.Equal(spare, []uint32{9, 5, 7, 100, 200}), true)
	clear(spare)
	row(t, "a list that is changed later", p.Free(), 5, 7, 9)
}

func TestRowsOfPools(t *testing.T) {
	p := pool.New([]uint32{3, 4, 5, 6}, 8, 9)
	free, taken := p.Free(), p.Taken()
	takes(t, "some", p, 3, 4)
	row(t, "Free of what is there then", free, 5, 6)
	row(t, "Free again", free, 5, 6)
	row(t, "Taken", taken, 3, 4)
	for id := range free {
		is(t, "Free, left", id, 5)
		break
	}
	var l []uint32
	for id := range taken {
		l = append(l, id)
		is(t, "Give of what is gone through", p.Give(id), api.OK)
	}
	is(t, "Taken, given back meanwhile", slices.Equal(l, []uint32{3, 4}), true)
	row(t, "none is taken", taken)
	row(t, "all are free", free, 3, 4, 5, 6)
}

func TestOfANilPool(t *testing.T) {
	var p *pool.Pool
	id, e := p.Take()
	is(t, "Take", id, 0)
	is(t, "its error", e, api.ErrNil)
	is(t, "Give", p.Give(0), api.ErrNil)
	is(t, "Left", p.Left(), 0)
	is(t, "High", p.High(), 0)
	row(t, "Free", p.Free())
	row(t, "Taken", p.Taken())
}

// was tells a pool's pages and its Left, as a text.
func was(p *pool.Pool) string {
	var b strings.Builder
	for id := range p.Free() {
		b.WriteString(" " + strconv.Itoa(int(id)))
	}
	b.WriteString(" |")
	for id := range p.Taken() {
		b.WriteString(" " + strconv.Itoa(int(id)))
	}
	return b.String() + " | " + strconv.Itoa(p.Left())
}

func TestTakenAndGivenBack(t *testing.T) {
	p := pool.New([]uint32{3, 5}, 8, 12)
	takes(t, "one", p, 3)
	ahead, high := was(p), p.High()
	takes(t, "one that was free", p, 5)
	is(t, "Give", p.Give(5), api.OK)
	is(t, "as if it never was taken", was(p), ahead)
	is(t, "nor is the mark another one", p.High(), high)
	takes(t, "the mark's", p, 5, 8, 9)
	for _, id := range []uint32{9, 5, 8} {
		is(t, "Give", p.Give(id), api.OK)
	}
	is(t, "Left is as it was", p.Left(), 5)
	row(t, "Taken, too", p.Taken(), 3)
	is(t, "but for the mark", p.High(), 10)
	takes(t, "in order", p, 5, 8, 9, 10, 11)
	full(t, "at last", p)
}

// model is a pool told by two maps.
type model struct {
	free, taken map[uint32]bool
	high, pages uint32
}

// left are the pages that may be taken.
func (m model) left() int {
	n := len(m.free)
	for id := m.high; id < m.pages; id++ {
		if !m.free[id] && !m.taken[id] {
			n++
		}
	}
	return n
}

// take is what Take has to answer.
func (m *model) take() (uint32, api.Errno) {
	if len(m.free) > 0 {
		id := slices.Min(slices.Collect(maps.Keys(m.free)))
		delete(m.free, id)
		m.taken[id] = true
		return id, api.OK
	}
	for id := m.high; id < m.pages; id++ {
		if !m.taken[id] {
			m.taken[id], m.high = true, id+1
			return id, api.OK
		}
	}
	return 0, api.ErrFull
}

// give is what Give has to answer.
func (m *model) give(id uint32) api.Errno {
	if !m.taken[id] {
		return api.ErrNone
	}
	delete(m.taken, id)
	m.free[id] = true
	return api.OK
}

func TestPoolsByChance(t *testing.T) {
	r := rand.New(rand.NewPCG(11, 2))
	for round := range 400 {
		m := model{free: map[uint32]bool{}, taken: map[uint32]bool{}, high: uint32(r.IntN(12)), pages: uint32(r.IntN(24))}
		bound := max(m.high, 1)
		if round%4 == 0 { // beyond the mark, too
			bound = 30
		}
		free := make([]uint32, r.IntN(8))
		for i := range free {
			free[i] = r.Uint32N(bound)
			m.free[free[i]] = true
		}
		p := pool.New(free, m.high, m.pages)
		for range 60 {
			if r.IntN(5) < 3 {
				given, e := p.Take()
				want, wanted := m.take()
				is(t, "Take", given, want)
				is(t, "its error", e, wanted)
			} else {
				id := r.Uint32N(30)
				is(t, "Give of "+strconv.Itoa(int(id)), p.Give(id), m.give(id))
			}
			is(t, "Left", p.Left(), m.left())
			is(t, "High", p.High(), m.high)
			row(t, "Free", p.Free(), slices.Sorted(maps.Keys(m.free))...)
			row(t, "Taken", p.Taken(), slices.Sorted(maps.Keys(m.taken))...)
			if t.Failed() {
				t.Fatalf("New of %v, and %d, %d", free, m.high, m.pages)
			}
		}
		for n := p.Left(); n > 0; n-- {
			_, e := p.Take()
			is(t, "one of what is left", e, api.OK)
		}
		full(t, "at last", p)
	}
}
