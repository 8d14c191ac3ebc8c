package join_test

import (
	"iter"
	"math"
	"slices"
	"strconv"
	"strings"
	"testing"

	"taproot/api"
	"taproot/join"
)

func TestOf(t *testing.T) {
	for _, want := range [][]int{nil, {}, {7}, {3, 1, 2, 2}} {
		row := join.Of(want...)
		for range 2 {
			l, e := join.List(row)
			is(t, "OK", e, api.OK)
			alike(t, "its things", l, want)
		}
		for most := range want {
			n := 0
			for x, e := range row {
				is(t, "a thing", x == want[n] && e == api.OK, true)
				n++
				if n > most {
					break
				}
			}
			is(t, "left", n, most+1)
		}
	}
	l := []string{"a", "b", "c"}
	row := join.Of(l[:2]...)
	l[0], l[1] = "x", "y"
	got, _ := join.List(row)
	alike(t, "what was handed in isn't kept", got, []string{"a", "b"})
	alike(t, "nor changed", l, []string{"x", "y", "c"})
}

func TestList(t *testing.T) {
	for _, w := range []struct {
		words string
		n     int
		e     api.Errno
	}{
		{"", 0, api.OK}, {"1", 1, api.OK}, {"3 1 2 2", 4, api.OK}, {"1 2 !!!", 0, api.ErrShort}, {"!!! 1", 0, api.ErrShort}, {"1 !! !!! 2", 0, api.ErrArg},
	} {
		s := of("a", w.words)
		for range 2 {
			l, e := join.List(s.row)
			is(t, w.words+": the error", e, w.e)
			is(t, w.words+": how many", len(l), w.n)
			if e == api.OK {
				want, _ := s.things()
				alike(t, w.words, l, want)
			}
		}
		is(t, w.words+": ended", s.ended, 2)
	}
	row := join.Of(1, 2)
	one, _ := join.List(row)
	two, _ := join.List(row)
	one[0] = 9
	_ = append(one[:1], 9)
	alike(t, "no two answers share a list", two, []int{1, 2})
}

func TestWhere(t *testing.T) {
	odd := func(x thing) bool { return x.key%2 == 1 }
	for _, w := range []struct{ words, want string }{
		{"", ""}, {"1 2 3 4", "1a0 3a2"}, {"2 4", ""}, {"3 1 1", "3a0 1a1 1a2"}, {"1 2 !!! 3", "1a0 error 3"}, {"!!! 1", "error 3"}, {"2 !!", "error 2"},
	} {
		s := of("a", w.words)
		row := join.Where(s.row, odd)
		is(t, "nothing is asked for ahead", s.begun, 0)
		for range 2 {
			is(t, "Where of "+w.words, brief(row), w.want)
		}
		is(t, "ended", s.ended, 2)
	}
	s := of("a", "2 1 4 3 5")
	for x := range join.Where(s.row, odd) {
		is(t, "the first", x.key, 1)
		break
	}
	is(t, "no more is asked for", s.asked, 2)
	is(t, "left", s.ended, 1)
}

func TestFold(t *testing.T) {
	text := func(s string, x thing) string { return "(" + s + strconv.Itoa(x.key) + ")" }
	for _, w := range []struct {
		words, want string
		e           api.Errno
	}{
		{"", "", api.OK}, {"1", "(1)", api.OK}, {"1 3 2", "(((1)3)2)", api.OK}, {"1 !!! 2", "", api.ErrShort}, {"!!", "", api.ErrArg},
	} {
		s := of("a", w.words)
		got, e := join.Fold(s.row, "", text)
		is(t, "Fold of "+w.words, got, w.want)
		is(t, "its error", e, w.e)
		is(t, "ended", s.ended, 1)
	}
	got, e := join.Fold(of("a", "1 2").row, "x", text)
	is(t, "from another one", got == "((x1)2)" && e == api.OK, true)
	got, e = join.Fold(of("a", "").row, "x", text)
	is(t, "of nothing", got == "x" && e == api.OK, true)
	got, e = join.Fold(of("a", "1 !!").row, "x", text)
	is(t, "an error leaves nothing", got == "" && e == api.ErrArg, true)
}

func TestGroup(t *testing.T) {
	type run struct {
		key int
		l   string
	}
	for _, w := range []struct {
		words string
		want  []run
	}{
		{"", nil},
		{"10", []run{{1, "10a0"}}},
		{"10 11 20 21 22 30", []run{{1, "10a0 11a1"}, {2, "20a2 21a3 22a4"}, {3, "30a5"}}},
		{"10 20 11 12", []run{{1, "10a0"}, {2, "20a1"}, {1, "11a2 12a3"}}},
		{"1 2 10", []run{{0, "1a0 2a1"}, {1, "10a2"}}},
		{"10 1 2", []run{{1, "10a0"}, {0, "1a1 2a2"}}},
		{"10 11 20 !!! 21", []run{{1, "10a0 11a1"}}},
		{"10 11 !!!", nil},
		{"!!! 10", nil},
	} {
		s := of("a", w.words)
		row := join.Group(s.row, func(x thing) int { return x.key / 10 })
		is(t, "nothing is asked for ahead", s.begun, 0)
		for range 2 {
			var l []run
			for k, x := range row {
				l = append(l, run{k, brief(join.Of(x...))})
			}
			alike(t, "Group of "+w.words, l, w.want)
		}
		for most := range w.want {
			n := 0
			for range row {
				n++
				if n > most {
					break
				}
			}
			is(t, "left", n, most+1)
		}
		is(t, "ended", s.ended, s.begun)
	}
}

func TestGroupAsksForNoMore(t *testing.T) {
	s := of("a", "10 11 20 21 30")
	asked := []int{3, 5, 6} // a run's end is known by the thing behind it
	for k := range join.Group(s.row, func(x thing) int { return x.key / 10 }) {
		is(t, "asked for", s.asked, asked[k-1])
	}
	s.asked = 0
	for range join.Group(s.row, func(x thing) int { return x.key / 10 }) {
		break
	}
	is(t, "left", s.asked, 3)
	is(t, "ended", s.ended, 2)
}

// Each run is new memory.
func TestGroupAnswersNewLists(t *testing.T) {
	row := join.Group(join.Of(1, 1, 2, 2, 2, 3), func(n int) int { return n })
	var lists [][]int
	for range 2 {
		for _, l := range row {
			lists = append(lists, l)
		}
	}
	want := make([][]int, len(lists))
	for i, l := range lists {
		want[i] = slices.Clone(l)
	}
	for i, l := range lists {
		l[0] = 9
		_ = append(l, 8, 8)
		_ = append(l[:1], 7)
		for j := i + 1; j < len(lists); j++ {
			alike(t, "another one", lists[j], want[j])
		}
	}
}

// Keys that aren't like themselves, or can't be compared, make runs of one each.
func TestGroupOfOddKeys(t *testing.T) {
	n := 0
	for k, l := range join.Group(join.Of(1, 2), func(int) float64 { return math.NaN() }) {
		is(t, "no number", k != k && len(l) == 1, true)
		n++
	}
	is(t, "runs", n, 2)
	n = 0
	for _, l := range join.Group(join.Of(1, 2, 3), func(n int) any { return []int{n} }) {
		is(t, "a list", len(l), 1)
		n++
	}
	is(t, "runs", n, 3)
	n = 0
	for k, l := range join.Group(join.Of(1, 2, 3, 4), func(n int) any { return []any{nil, "a"}[n/3] }) {
		is(t, "things of any sort", len(l) == 2 && k == []any{nil, "a"}[n], true)
		n++
	}
	is(t, "runs", n, 2)
}

// A function that panics, or isn't there, is an error; so is a row that panics; a row that isn't there is empty.
func TestWhatCannotBeUsed(t *testing.T) {
	panics := func(yield func(thing, api.Errno) bool) {
		_ = yield(thing{1, "p"}, api.OK) && yield(thing{2, "p"}, api.OK)
		panic("row")
	}
	so := func(thing) bool { return true }
	add := func(n int, x thing) int { return n + x.key }
	for _, f := range []func(thing) bool{nil, func(thing) bool { panic("so") }, func(x thing) bool { return x.key/(x.key-1) > 0 }} {
		is(t, "Where", brief(join.Where(of("a", "1 2").row, f)), "error 2")
	}
	is(t, "Where, later", brief(join.Where(of("a", "1 2").row, func(x thing) bool { return 1/(2-x.key) > 0 })), "1a0 error 2")
	for _, f := range []func(int, thing) int{nil, func(int, thing) int { panic("f") }, func(n int, x thing) int { return n + 1/(2-x.key) }} {
		n, e := join.Fold(of("a", "1 2 3").row, 7, f)
		is(t, "Fold", n == 0 && e == api.ErrArg, true)
	}
	for _, f := range []func(thing) int{nil, func(thing) int { panic("key") }} {
		for range join.Group(of("a", "1 2").row, f) {
			t.Errorf("Group: a run")
		}
	}
	for k, l := range join.Group(of("a", "1 2 2 3").row, func(x thing) int { return 1 / (3 - x.key) }) {
		is(t, "Group: a run ahead of that", k == 0 && len(l) == 1, true)
	}
	l, e := join.List(panics)
	is(t, "List of a row that panics", len(l) == 0 && e == api.ErrArg, true)
	n, e := join.Fold(panics, 7, add)
	is(t, "Fold of it", n == 0 && e == api.ErrArg, true)
	is(t, "Where of it", brief(join.Where(panics, so)), "1p 2p error 2")
	for k, l := range join.Group(panics, func(x thing) int { return x.key }) {
		is(t, "Group of it", k == 1 && len(l) == 1, true)
	}
	for range join.Where(panics, so) {
		break // its panic behind that is nobody's
	}
	l, e = join.List[thing](nil)
	is(t, "List of none", len(l) == 0 && e == api.OK, true)
	n, e = join.Fold(nil, 7, add)
	is(t, "Fold of none", n == 7 && e == api.OK, true)
	is(t, "Where of none", brief(join.Where(nil, so)), "")
	for range join.Group(nil, so) {
		t.Errorf("Group of none: a run")
	}
}

// Whoever goes through a row has their panics themselves, and what is gone through is ended all the same.
func TestPanicsOfOthers(t *testing.T) {
	a, b := of("a", "1 2 3"), of("b", "1 2 3")
	each := map[string]func(f func()){
		"Of": func(f func()) {
			for range join.Of(1) {
				f()
			}
		},
		"Where": func(f func()) {
			for range join.Where(a.row, func(thing) bool { return true }) {
				f()
			}
		},
		"Group": func(f func()) {
			for range join.Group(a.row, func(x thing) int { return x.key }) {
				f()
			}
		},
		"Both": func(f func()) {
			for range join.Both(a.row, b.row, byKey) {
				f()
			}
		},
		"Merge": func(f func()) {
			for range join.Merge(a.row, b.row, byKey) {
				f()
			}
		},
		"Both, at an error": func(f func()) {
			for range join.Both(of("a", "!!").row, b.row, byKey) {
				f()
			}
		},
	}
	for what, through := range each {
		n := 0
		func() {
			defer func() { is(t, what+": the panic", recover() == "mine", true) }()
			through(func() {
				n++
				panic("mine")
			})
		}()
		is(t, what+": once", n, 1)
		is(t, what+": ended", a.ended == a.begun && b.ended == b.begun, true)
	}
}

// What is gone through is what is there then.
func TestRowsOfWhatChanges(t *testing.T) {
	s := of("a", "1 2")
	even := join.Where(s.row, func(x thing) bool { return x.key%2 == 0 })
	merged := join.Merge(s.row, even, byKey)
	is(t, "ahead", brief(merged), "1a0 2a1 2a1")
	*s = *of("c", "4 5 6")
	is(t, "behind", brief(merged), "4c0 4c0 5c1 6c2 6c2")
}

// on is a row that goes on behind its end.
func on(yield func(thing, api.Errno) bool) {
	for i := range 5 {
		yield(thing{i, "o"}, api.OK)
	}
}

// A row that goes on where it was left is ended all the same.
func TestRowsThatGoOn(t *testing.T) {
	for range join.Where(on, func(thing) bool { return true }) {
		break
	}
	for range join.Both(on, on, byKey) {
		break
	}
	for range join.Merge(on, iter.Seq2[thing, api.Errno](nil), byKey) {
		break
	}
	is(t, "an error ends it", brief(join.Merge(on, of("a", "3 !!!").row, byKey)), strings.Join([]string{"0o", "1o", "2o", "3o", "3a0", "error 3"}, " "))
}
