package diff_test

import (
	"math"
	"slices"
	"strings"
	"testing"

	"taproot/api"
	"taproot/diff"
	"taproot/disk"
	"taproot/pager"
	"taproot/registry"
	"taproot/store"
	"taproot/txn"
)

func TestOf(t *testing.T) {
	alone := pairs("0", "zero", "aaa", "", "z", "zz")
	a := append(before(some()), alone...)
	b := append(behind(some()), alone...)
	for _, w := range []struct {
		what string
		a, b []api.Pair
		want []diff.Change
	}{
		{"nothing", nil, nil, nil},
		{"the same", a, a, nil},
		{"all sorts", a, b, some()},
		{"all of one", a, nil, diff.Turn(diff.Behind(nil, mapped(a, comes)))},
		{"all of the other one", nil, b, mapped(b, comes)},
		{"an empty value, and none", pairs("a", "", "b", ""), pairs("b", "", "c", ""), []diff.Change{goes("a", ""), comes("c", "")}},
		{"keys of which one begins with the other", pairs("a", "x", "ab", "x"), pairs("a", "x", "a\x00", "x", "abc", "x"), []diff.Change{comes("a\x00", "x"), goes("ab", "x"), comes("abc", "x")}},
		{"long values", pairs("a", strings.Repeat("v", api.MaxValue), "b", strings.Repeat("v", api.MaxInline+1)), pairs("a", strings.Repeat("v", api.MaxValue-1)+"w", "b", strings.Repeat("v", api.MaxInline+1)), []diff.Change{turns("a", strings.Repeat("v", api.MaxValue), strings.Repeat("v", api.MaxValue-1)+"w")}},
		{"no queues, any pairs", pairs("q", "1"), pairs("q", "2"), []diff.Change{turns("q", "1", "2")}},
	} {
		for left, x := range writers(t, w.a...) {
			for right, y := range writers(t, w.b...) {
				what := w.what + " of " + left + " and " + right
				row := diff.Of(x, y)
				for range 2 {
					alike(t, what, all(t, row), w.want)
				}
				is(t, what+": right", diff.Right(all(t, row)), true)
				held(t, what+": left", x, w.a...)
				held(t, what+": right", y, w.b...)
			}
		}
	}
}

// mapped are the changes of one sort that pairs are.
func mapped(l []api.Pair, f func(key, value string) diff.Change) []diff.Change {
	var m []diff.Change
	for _, p := range l {
		m = append(m, f(p.Key, p.Value))
	}
	slices.SortFunc(m, func(a, b diff.Change) int { return strings.Compare(a.Key, b.Key) })
	return m
}

func TestOfOneReader(t *testing.T) {
	for what, w := range writers(t, before(some())...) {
		row := diff.Of(w, w)
		is(t, what+" and itself", len(all(t, row)), 0)
		other := registry.New(behind(some())...)
		row = diff.Of(w, other)
		for most := range some() {
			var l []diff.Change
			for c, e := range row {
				is(t, "OK", e, api.OK)
				l = append(l, c)
				if len(l) > most {
					break
				}
			}
			alike(t, what+": left", l, some()[:most+1])
		}
		_, e := w.Cut("a")
		is(t, "cut", e, api.OK)
		is(t, "put", other.Put("d", ""), api.OK)
		want := slices.DeleteFunc(some(), func(c diff.Change) bool { return c.Key == "a" || c.Key == "d" })
		alike(t, what+": what is there then", all(t, row), want)
	}
	is(t, "no shelves", len(all(t, diff.Of((*registry.Shelf)(nil), registry.New()))), 0)
	alike(t, "no shelf, and one", all(t, diff.Of((*registry.Shelf)(nil), registry.New(pairs("a", "1")...))), []diff.Change{comes("a", "1")})
}

// What a snapshot tells, and what is committed since.
func TestOfSnapshots(t *testing.T) {
	s, x := opened(t)
	for _, p := range before(some()) {
		is(t, "put", x.Put(p.Key, p.Value), api.OK)
	}
	is(t, "committed", s.Commit(0), api.OK)
	n, e := s.Snap()
	is(t, "a snapshot", e, api.OK)
	was, _ := s.Snapped(n)
	y, _ := s.Begin()
	is(t, "Apply", diff.Apply(y, some()), api.OK)
	alike(t, "what wasn't committed yet", all(t, diff.Of(s.Now(), y)), some())
	is(t, "committed", s.Commit(0), api.OK)
	alike(t, "since", all(t, diff.Of(was, s.Now())), some())
	alike(t, "turned", all(t, diff.Of(s.Now(), was)), diff.Turn(some()))
}

// An error of a reader's comes where its next pair is needed, a's ahead of b's.
func TestErrorsOfReaders(t *testing.T) {
	a, b := pairs("a", "1", "b", "1", "d", "1", "f", "1"), pairs("a", "1", "b", "2", "c", "1", "e", "1")
	want := []diff.Change{turns("b", "1", "2"), comes("c", "1"), goes("d", "1"), comes("e", "1"), goes("f", "1")}
	fails := func(l []api.Pair, left int, e api.Errno) *failing {
		return &failing{Shelf: registry.New(l...), t: t, left: left, err: e}
	}
	for left, n := range []int{0, 0, 1, 3, 5} {
		x := fails(a, left, api.ErrSum)
		ended(t, "the left one", diff.Of(x, registry.New(b...)), want[:n], api.ErrSum)
		is(t, "it failed", x.gone, true)
	}
	for left, n := range []int{0, 0, 1, 2, 4} {
		ended(t, "the right one", diff.Of(registry.New(a...), fails(b, left, api.ErrSum)), want[:n], api.ErrSum)
	}
	ended(t, "both at first", diff.Of(fails(a, 0, api.ErrSum), fails(b, 0, api.ErrPower)), nil, api.ErrSum)
	ended(t, "both behind a", diff.Of(fails(a, 1, api.ErrSum), fails(b, 1, api.ErrPower)), nil, api.ErrSum)
	ended(t, "both, the right one ahead", diff.Of(fails(a, 3, api.ErrSum), fails(b, 3, api.ErrPower)), want[:2], api.ErrPower)
	alike(t, "neither", all(t, diff.Of(fails(a, 5, api.ErrSum), fails(b, 5, api.ErrPower))), want)
}

func TestReadersThatCannotBeUsed(t *testing.T) {
	d, _ := disk.New(60)
	s, _ := store.Open(d)
	x, _ := s.Begin()
	is(t, "put", x.Put("a", "1"), api.OK)
	is(t, "committed", s.Commit(0), api.OK)
	empty := registry.New()
	for _, w := range []struct {
		what string
		r    registry.Reader
		want api.Errno
	}{
		{"none", nil, api.ErrArg}, {"none of a sort", (*failing)(nil), api.ErrArg}, {"one that panics", panicking{}, api.ErrArg},
		{"no view", (*txn.View)(nil), api.ErrNil}, {"no disk", txn.Look(nil, txn.Base{}), api.ErrNil}, {"one that has ended", x, api.ErrClosed},
	} {
		ended(t, w.what+", left", diff.Of(w.r, empty), nil, w.want)
		ended(t, w.what+", right", diff.Of(empty, w.r), nil, w.want)
		ended(t, w.what+", both", diff.Of(w.r, w.r), nil, w.want)
	}
	torn := txn.Look(pager.New(d), s.Base())
	is(t, "a page of zeros", d.Write(s.Base().Root.Data, api.Page{}), api.OK)
	ended(t, "a page that isn't whole", diff.Of(torn, empty), nil, api.ErrSum)
	ended(t, "behind a change", diff.Of(registry.New(pairs("a", "1", "b", "1")...), &failing{Shelf: registry.New(pairs("b", "1")...), t: t, left: 1, err: api.ErrPage}), []diff.Change{goes("a", "1")}, api.ErrPage)
}

func TestRight(t *testing.T) {
	for _, l := range [][]diff.Change{
		nil, {}, some(), diff.Turn(some()), {comes("a", "")}, {goes("a", "")}, {turns("a", "", "x")}, {turns("a", "x", "")}, {turns("", "x", "y")},
		{comes("a", "x"), comes("a\x00", "x")}, {comes(strings.Repeat("a", 1000), "x")}, {comes("a", strings.Repeat("x", api.MaxValue+1))},
	} {
		is(t, "right: "+brief(l), diff.Right(l), true)
	}
	for _, l := range [][]diff.Change{
		{{}}, {{Key: "a"}}, {{Key: "a", Was: "x"}}, {{Key: "a", Now: "x"}}, {{Key: "a", Was: "x", Now: "y"}},
		{{Key: "a", Was: "x", Has: true}}, {{Key: "a", Was: "x", Now: "y", Has: true}}, {{Key: "a", Now: "x", Had: true}}, {{Key: "a", Was: "x", Now: "y", Had: true}}, {{Key: "a", Was: "x", Now: "x", Had: true}}, {{Key: "a", Was: "x", Now: "x", Has: true}},
		{turns("a", "", "")}, {turns("a", "x", "x")},
		{comes("a", "x"), comes("a", "x")}, {comes("b", "x"), comes("a", "x")}, {goes("a", "x"), comes("a", "y")}, {comes("\xff", "x"), comes("a", "x")}, {comes("ab", ""), comes("a", "")},
	} {
		is(t, "not right: "+brief(l), diff.Right(l), false)
		is(t, "not right, ahead of others: "+brief(l), diff.Right(append(slices.Clone(l), comes("\xff\xff\xff", ""))), false)
	}
	for i := range some() {
		l := some()
		l[i].Had, l[i].Has = false, false
		is(t, "of nothing", diff.Right(l), false)
		l = some()
		l = slices.Insert(l, i, l[i])
		is(t, "twice", diff.Right(l), false)
	}
}

func TestApply(t *testing.T) {
	others := pairs("0", "zero", "aaa", "", "z", "zz")
	for what, w := range writers(t, append(before(some()), others...)...) {
		is(t, what, diff.Apply(w, some()), api.OK)
		held(t, what+": as it shall be", w, append(behind(some()), others...)...)
		is(t, what+": once more", diff.Apply(w, some()), api.ErrLost)
		is(t, what+": nothing", diff.Apply(w, nil), api.OK)
		held(t, what+": as it was", w, append(behind(some()), others...)...)
		is(t, what+": turned", diff.Apply(w, diff.Turn(some())), api.OK)
		held(t, what+": as it was at first", w, append(before(some()), others...)...)
	}
	w := &failing{Shelf: registry.New(before(some())...), t: t, left: math.MaxInt}
	is(t, "in order", diff.Apply(w, some()), api.OK)
	alike(t, "each once", w.done, []string{"put ", "put \x00", "cut a", "put aa", "put b", "put c", "cut d", "put \xff\xfe", "cut \xff\xff"})
}

// Changes that aren't right, or that tell another thing than what is there, change nothing.
func TestApplyOfWhatDoesNotFit(t *testing.T) {
	have := pairs("a", "1", "b", "", "d", "2")
	fits := []diff.Change{turns("a", "1", "2"), goes("b", ""), comes("c", ""), turns("d", "2", "")}
	for _, w := range []struct {
		what string
		c    diff.Change
		want api.Errno
	}{
		{"another value", turns("a", "2", "3"), api.ErrLost},
		{"another value that goes", goes("a", "2"), api.ErrLost},
		{"a value, not an empty one", turns("a", "", "3"), api.ErrLost},
		{"a value that is there", comes("a", "3"), api.ErrLost},
		{"an empty value that is there", comes("b", "3"), api.ErrLost},
		{"an empty value, not another one", turns("b", "1", "2"), api.ErrLost},
		{"a value that isn't there", turns("c", "1", "2"), api.ErrLost},
		{"an empty value that isn't there", goes("c", ""), api.ErrLost},
		{"behind others", goes("e", ""), api.ErrLost},
		{"not right", turns("c", "1", "1"), api.ErrForm},
		{"not right, and not so", diff.Change{Key: "a", Was: "3", Now: "4"}, api.ErrForm},
		{"nothing", diff.Change{Key: "c"}, api.ErrForm},
	} {
		l := slices.DeleteFunc(slices.Clone(fits), func(c diff.Change) bool { return c.Key == w.c.Key })
		at, _ := slices.BinarySearchFunc(l, w.c.Key, func(c diff.Change, key string) int { return strings.Compare(c.Key, key) })
		for what, x := range writers(t, have...) {
			is(t, what+": "+w.what, diff.Apply(x, []diff.Change{w.c}), w.want)
			is(t, what+": "+w.what+", among others", diff.Apply(x, slices.Insert(slices.Clone(l), at, w.c)), w.want)
			held(t, what+": as it was", x, have...)
		}
	}
	for what, x := range writers(t, have...) {
		is(t, what+": ErrForm goes ahead of ErrLost", diff.Apply(x, []diff.Change{comes("a", "9"), comes("a", "9")}), api.ErrForm)
		is(t, what+": not in order", diff.Apply(x, []diff.Change{fits[1], fits[0]}), api.ErrForm)
		held(t, what+": as it was", x, have...)
		is(t, what+": one and all", diff.Apply(x, fits), api.OK)
		held(t, what+": changed", x, pairs("a", "2", "c", "", "d", "")...)
	}
}

// The first error of a writer, at whichever step, is the answer, and nothing is asked behind it.
func TestApplyFails(t *testing.T) {
	n := len(some())
	for left := range 2 * n {
		for _, err := range []api.Errno{api.ErrSum, api.ErrLost, api.ErrNone, api.ErrNil} {
			w := &failing{Shelf: registry.New(before(some())...), t: t, left: left, err: err}
			is(t, "the error", diff.Apply(w, some()), err)
			is(t, "it failed", w.gone, true)
			is(t, "what was done", len(w.done), max(left-n, 0))
			held(t, "the rest stays", w.Shelf, append(behind(some()[:len(w.done)]), before(some()[len(w.done):])...)...)
		}
	}
	w := &failing{Shelf: registry.New(before(some())...), t: t, left: 2 * n}
	is(t, "OK", diff.Apply(w, some()), api.OK)
	is(t, "its steps", w.left, 0)
	w = &failing{Shelf: registry.New(pairs("a", "1")...), t: t, left: 1, err: api.ErrSum}
	is(t, "what is met first", diff.Apply(w, []diff.Change{comes("a", "2"), comes("b", "2")}), api.ErrLost)
	w = &failing{Shelf: registry.New(), t: t, err: api.ErrSum}
	is(t, "nothing is asked of changes that aren't right", diff.Apply(w, []diff.Change{{}}), api.ErrForm)
	is(t, "nor of none", diff.Apply(w, nil), api.OK)
}

func TestApplyToWritersThatCannotBeUsed(t *testing.T) {
	l := []diff.Change{comes("a", "1")}
	for _, w := range []registry.Writer{nil, (*failing)(nil), panicking{}} {
		is(t, "no writer", diff.Apply(w, l), api.ErrArg)
		is(t, "not right", diff.Apply(w, []diff.Change{{}}), api.ErrForm)
		is(t, "nothing", diff.Apply(w, nil), api.OK)
	}
	is(t, "no transaction", diff.Apply((*txn.Txn)(nil), l), api.ErrNil)
	s, x := opened(t)
	is(t, "given up", s.Abort(), api.OK)
	is(t, "one that has ended", diff.Apply(x, l), api.ErrClosed)
	for what, w := range writers(t) {
		long := []diff.Change{comes("a", "1"), comes("b", strings.Repeat("v", api.MaxValue+1)), comes("c", "1")}
		is(t, what+": a value that is too long", diff.Apply(w, long), api.ErrLong)
		held(t, what+": what was ahead", w, pairs("a", "1")...)
		is(t, what+": a key that is too long", diff.Apply(w, []diff.Change{comes(strings.Repeat("k", api.MaxKey+1), "")}), api.ErrLong)
		most := []diff.Change{comes(strings.Repeat("k", api.MaxKey), strings.Repeat("v", api.MaxValue))}
		is(t, what+": the longest", diff.Apply(w, most), api.OK)
		held(t, what+": with it", w, append(pairs("a", "1"), behind(most)...)...)
	}
}

func TestTurn(t *testing.T) {
	alike(t, "each", diff.Turn([]diff.Change{comes("a", "1"), turns("b", "1", "2"), goes("c", "3")}), []diff.Change{goes("a", "1"), turns("b", "2", "1"), comes("c", "3")})
	alike(t, "whatever they are", diff.Turn([]diff.Change{{Key: "b", Was: "x"}, {Key: "a", Now: "y", Had: true}}), []diff.Change{{Key: "b", Now: "x"}, {Key: "a", Was: "y", Has: true}})
	is(t, "none", len(diff.Turn(nil)), 0)
	alike(t, "twice", diff.Turn(diff.Turn(some())), some())
}

func TestBehind(t *testing.T) {
	for _, w := range []struct {
		what       string
		l, m, want []diff.Change
	}{
		{"nothing", nil, nil, nil},
		{"the first alone", some(), nil, some()},
		{"the second alone", nil, some(), some()},
		{"other keys", []diff.Change{comes("b", "1"), goes("d", "1")}, []diff.Change{goes("a", "1"), turns("c", "1", "2"), comes("e", "1")}, []diff.Change{goes("a", "1"), comes("b", "1"), turns("c", "1", "2"), goes("d", "1"), comes("e", "1")}},
		{"it comes, and turns", []diff.Change{comes("a", "1")}, []diff.Change{turns("a", "1", "2")}, []diff.Change{comes("a", "2")}},
		{"it comes, and goes", []diff.Change{comes("a", "1")}, []diff.Change{goes("a", "1")}, nil},
		{"it comes empty, and goes", []diff.Change{comes("a", "")}, []diff.Change{goes("a", "")}, nil},
		{"it turns twice", []diff.Change{turns("a", "1", "2")}, []diff.Change{turns("a", "2", "3")}, []diff.Change{turns("a", "1", "3")}},
		{"it turns, and back", []diff.Change{turns("a", "1", "2")}, []diff.Change{turns("a", "2", "1")}, nil},
		{"it turns, and goes", []diff.Change{turns("a", "1", "")}, []diff.Change{goes("a", "")}, []diff.Change{goes("a", "1")}},
		{"it goes, and comes", []diff.Change{goes("a", "1")}, []diff.Change{comes("a", "2")}, []diff.Change{turns("a", "1", "2")}},
		{"it goes, and comes empty", []diff.Change{goes("a", "1")}, []diff.Change{comes("a", "")}, []diff.Change{turns("a", "1", "")}},
		{"it goes, and comes as it was", []diff.Change{goes("a", "1")}, []diff.Change{comes("a", "1")}, nil},
		{"it goes empty, and comes empty", []diff.Change{goes("a", "")}, []diff.Change{comes("a", "")}, nil},
		{"all, and back", some(), diff.Turn(some()), nil},
	} {
		alike(t, w.what, diff.Behind(w.l, w.m), w.want)
	}
	// Of changes that aren't right, or don't fit, nothing is promised, but that it ends.
	for _, l := range [][]diff.Change{{{}}, {comes("b", "1"), comes("a", "1")}, {comes("a", "1"), comes("a", "1")}, some()} {
		diff.Behind(l, some())
		diff.Behind(some(), l)
		diff.Behind(l, l)
	}
}

// What is handed in is neither changed, spare room included, nor kept.
func TestMemory(t *testing.T) {
	spare := append(append(make([]diff.Change, 0, 99), some()...), some()...)
	l := spare[:len(some())]
	w := registry.New(before(some())...)
	one, two := diff.Turn(l), diff.Turn(l)
	is(t, "Apply", diff.Apply(w, l), api.OK)
	b, c := diff.Behind(l, nil), diff.Behind(nil, l)
	diff.Behind(l, l)
	diff.Right(l)
	diff.Bytes(l)
	alike(t, "as it was", spare, append(some(), some()...))
	for i := range one {
		one[i], b[i] = diff.Change{}, diff.Change{}
	}
	_ = append(append(one[:1], diff.Change{}), b[:1]...)
	alike(t, "as it was", spare, append(some(), some()...))
	alike(t, "another answer", two, diff.Turn(some()))
	alike(t, "another answer", c, some())
	x, e := diff.Parse(diff.Bytes(l))
	is(t, "OK", e, api.OK)
	y, _ := diff.Parse(diff.Bytes(l))
	x[0] = diff.Change{}
	alike(t, "another answer", y, some())
}
