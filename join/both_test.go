package join_test

import (
	"cmp"
	"iter"
	"math"
	"math/rand/v2"
	"runtime"
	"slices"
	"strconv"
	"strings"
	"testing"
	"time"

	"taproot/api"
	"taproot/join"
)

func TestBothAndMerge(t *testing.T) {
	for _, w := range []struct{ a, b, both, merge string }{
		{"", "", "", ""},
		{"1 2", "2 3", "1a0/ 2a1/2b0 /3b1", "1a0 2a1 2b0 3b1"},
		{"1 2", "", "1a0/ 2a1/", "1a0 2a1"},
		{"", "1 2", "/1b0 /2b1", "1b0 2b1"},
		{"1 3 5", "2 4", "1a0/ /2b0 3a1/ /4b1 5a2/", "1a0 2b0 3a1 4b1 5a2"},
		{"5", "1 2 9", "/1b0 /2b1 5a0/ /9b2", "1b0 2b1 5a0 9b2"},
		{"0", "0", "0a0/0b0", "0a0 0b0"},
		{"-1 0", "0 1", "-1a0/ 0a1/0b0 /1b1", "-1a0 0a1 0b0 1b1"},
		// An error comes where the row's next thing is needed: ahead of what the other has behind it.
		{"!!", "", "error 2", "error 2"},
		{"", "!!!", "error 3", "error 3"},
		{"!!", "!!!", "error 2", "error 2"},
		{"!!", "1", "error 2", "error 2"},
		{"1", "!!!", "error 3", "error 3"},
		{"1 !!", "2", "1a0/ error 2", "1a0 error 2"},
		{"2 !!", "1", "/1b0 2a0/ error 2", "1b0 2a0 error 2"},
		{"2", "1 !!!", "/1b0 error 3", "1b0 error 3"},
		{"2 !!", "1 !!!", "/1b0 error 3", "1b0 error 3"},
		{"1 !!", "2 !!!", "1a0/ error 2", "1a0 error 2"},
		{"1 !!", "1 !!!", "1a0/1b0 error 2", "1a0 1b0 error 2"},
		{"1 2", "1 !!!", "1a0/1b0 error 3", "1a0 1b0 error 3"},
		{"1 !!", "1 2", "1a0/1b0 error 2", "1a0 1b0 error 2"},
		{"1 2", "3 !!!", "1a0/ 2a1/ /3b0 error 3", "1a0 2a1 3b0 error 3"},
		{"1 !! 2 !!!!", "3", "1a0/ error 2", "1a0 error 2"},
	} {
		a, b := of("a", w.a), of("b", w.b)
		both, merge := join.Both(a.row, b.row, byKey), join.Merge(a.row, b.row, byKey)
		is(t, "nothing is asked for ahead", a.begun+b.begun, 0)
		for range 2 {
			is(t, "Both of "+w.a+" and "+w.b, sides(both), w.both)
			is(t, "Merge of "+w.a+" and "+w.b, brief(merge), w.merge)
		}
		is(t, "ended", a.ended == a.begun && b.ended == b.begun, true)
	}
}

// What a row has twice isn't lost, and of two that compare as 0 a's are ahead.
func TestMergeOfWhatIsThereTwice(t *testing.T) {
	for _, w := range []struct{ a, b, merge string }{
		{"1 1", "1", "1a0 1a1 1b0"},
		{"1", "1 1", "1a0 1b0 1b1"},
		{"1 1 2", "1 1 2 2", "1a0 1a1 1b0 1b1 2a2 2b2 2b3"},
		{"1 1 2", "0 1", "0b0 1a0 1a1 1b1 2a2"},
	} {
		is(t, "Merge of "+w.a+" and "+w.b, brief(join.Merge(of("a", w.a).row, of("b", w.b).row, byKey)), w.merge)
	}
}

// The function's numbers needn't be -1, 0 and 1, and may turn the order round.
func TestOtherOrders(t *testing.T) {
	far := func(x, y thing) int {
		return []int{math.MinInt, 0, math.MaxInt}[byKey(x, y)+1]
	}
	is(t, "Both", sides(join.Both(of("a", "1 2").row, of("b", "2 3").row, far)), "1a0/ 2a1/2b0 /3b1")
	is(t, "Merge", brief(join.Merge(of("a", "1 2").row, of("b", "2 3").row, far)), "1a0 2a1 2b0 3b1")
	down := func(x, y thing) int { return y.key - x.key }
	is(t, "Both, falling", sides(join.Both(of("a", "3 1").row, of("b", "3 2").row, down)), "3a0/3b0 /2b1 1a1/")
	is(t, "Merge, falling", brief(join.Merge(of("a", "3 1").row, of("b", "3 2").row, down)), "3a0 3b0 2b1 1a1")
}

// subsets are the rows of some of the keys 1 to 4, each with an error behind it, and without.
func subsets(from, err string) []*source {
	var l []*source
	for bits := range 32 {
		var words []string
		for i := range 4 {
			if bits>>i&1 == 1 {
				words = append(words, strconv.Itoa(i+1))
			}
		}
		if bits >= 16 {
			words = append(words, err)
		}
		l = append(l, of(from, strings.Join(words, " ")))
	}
	return l
}

// flat are the things of sides, one by one.
func flat(l []join.Side[thing]) []thing {
	var m []thing
	for _, s := range l {
		if s.HasLeft {
			m = append(m, s.Left)
		}
		if s.HasRight {
			m = append(m, s.Right)
		}
	}
	return m
}

// ok are things without an error, and then that, if there is one.
func ok[T any](l []T, e api.Errno) []step[T] {
	var m []step[T]
	for _, x := range l {
		m = append(m, step[T]{x: x})
	}
	if e != api.OK {
		m = append(m, step[T]{e: e})
	}
	return m
}

func TestAllShortRows(t *testing.T) {
	for _, a := range subsets("a", "!!") {
		for _, b := range subsets("b", "!!!") {
			l, _ := a.things()
			m, _ := b.things()
			want := expected(l, m)
			n, e := cut(want, a, b)
			alike(t, "Both", steps(join.Both(a.row, b.row, byKey)), ok(want[:n], e))
			alike(t, "Merge", steps(join.Merge(a.row, b.row, byKey)), ok(flat(want[:n]), e))
		}
	}
}

// patient holds how much was asked for against what was given, and leaves a row behind so many things.
func patient[T any](t *testing.T, what string, r iter.Seq2[T, api.Errno], a, b *source, most int, given func(T) (left, right bool)) int {
	t.Helper()
	a.asked, b.asked, a.begun, b.begun, a.ended, b.ended = 0, 0, 0, 0, 0, 0
	left, right, n := 0, 0, 0
	for x, e := range r {
		is(t, what+": asked for ahead", a.asked <= left+1 && b.asked <= right+1, true)
		is(t, what+": ended ahead", a.begun < 2 && b.begun < 2, true)
		n++
		if e == api.OK {
			l, r := given(x)
			if l {
				left++
			}
			if r {
				right++
			}
		}
		if n == most {
			break
		}
	}
	is(t, what+": asked for behind", a.asked <= left+1 && b.asked <= right+1, true)
	is(t, what+": ended", a.ended == a.begun && b.ended == b.begun, true)
	return n
}

// Of each row a thing is asked for only when the one ahead was given, and both are ended when the row is left, wherever that is.
func TestNothingIsAskedForAhead(t *testing.T) {
	for _, a := range subsets("a", "!!") {
		for _, b := range subsets("b", "!!!") {
			both, merge := join.Both(a.row, b.row, byKey), join.Merge(a.row, b.row, byKey)
			hands := func(s join.Side[thing]) (bool, bool) { return s.HasLeft, s.HasRight }
			from := func(x thing) (bool, bool) { return x.from[0] == 'a', x.from[0] == 'b' }
			all := patient(t, "Both", both, a, b, -1, hands)
			for most := 1; most <= all; most++ {
				is(t, "left", patient(t, "Both, left", both, a, b, most, hands), most)
			}
			all = patient(t, "Merge", merge, a, b, -1, from)
			for most := 1; most <= all; most++ {
				is(t, "left", patient(t, "Merge, left", merge, a, b, most, from), most)
			}
		}
	}
}

// Nothing is asked for behind an error, or behind an end.
func TestAskedFor(t *testing.T) {
	a, b := of("a", "1 !! 2"), of("b", "1 2 3")
	is(t, "an error", sides(join.Both(a.row, b.row, byKey)), "1a0/1b0 error 2")
	is(t, "nothing behind it", a.asked == 2 && b.asked == 1, true)
	a, b = of("a", "1"), of("b", "1 2 3")
	is(t, "an end", sides(join.Both(a.row, b.row, byKey)), "1a0/1b0 /2b1 /3b2")
	is(t, "once", a.asked == 2 && b.asked == 4, true)
	a, b = of("a", "!! 1"), of("b", "1")
	is(t, "an error at first", brief(join.Merge(a.row, b.row, byKey)), "error 2")
	is(t, "nothing of b", b.begun, 0)
}

// Rows without an end are gone through as far as one likes.
func TestRowsWithoutEnd(t *testing.T) {
	ended := 0
	every := func(n int) iter.Seq2[int, api.Errno] {
		return func(yield func(int, api.Errno) bool) {
			defer func() { ended++ }()
			for i := 0; yield(i, api.OK); i += n {
			}
		}
	}
	var l []int
	for s, e := range join.Both(every(2), every(3), cmp.Compare[int]) {
		is(t, "OK", e, api.OK)
		if s.HasLeft && s.HasRight {
			l = append(l, s.Left)
		}
		if len(l) == 4 {
			break
		}
	}
	alike(t, "on both", l, []int{0, 6, 12, 18})
	l = nil
	for x := range join.Merge(every(2), join.Merge(every(3), every(5), cmp.Compare[int]), cmp.Compare[int]) {
		l = append(l, x)
		if len(l) == 12 {
			break
		}
	}
	alike(t, "merged", l, []int{0, 0, 0, 2, 3, 4, 5, 6, 6, 8, 9, 10})
	is(t, "ended", ended, 5)
}

// A row may stand on both sides, and within another one, and be gone through while it is.
func TestRowsOfRows(t *testing.T) {
	s := of("a", "1 2 3")
	is(t, "on both sides", sides(join.Both(s.row, s.row, byKey)), "1a0/1a0 2a1/2a1 3a2/3a2")
	both := join.Both(join.Of(1, 2), join.Of(2, 3), cmp.Compare[int])
	of := func(s join.Side[int]) int { return max(s.Left, s.Right) }
	n := 0
	for x, e := range join.Both(both, both, func(s, u join.Side[int]) int { return cmp.Compare(of(s), of(u)) }) {
		n++
		is(t, "itself", e == api.OK && x.Left == x.Right && of(x.Left) == n, true)
		m := 0
		for y := range both {
			m++
			is(t, "while it is gone through", of(y), m)
		}
		is(t, "all of it", m, 3)
	}
	is(t, "all of it", n, 3)
	deep := join.Of(0)
	for i := range 200 {
		deep = join.Merge(deep, join.Of(i+1), cmp.Compare[int])
	}
	l, e := join.List(deep)
	is(t, "deep", e == api.OK && len(l) == 201 && slices.IsSorted(l), true)
}

// A function that panics, or isn't there, is an error where it is needed; so is a row that panics; a row that isn't there is empty.
func TestBothOfWhatCannotBeUsed(t *testing.T) {
	rude := func(yield func(thing, api.Errno) bool) {
		if yield(thing{1, "r"}, api.OK) {
			panic("row")
		}
		panic("left")
	}
	for _, compare := range []func(x, y thing) int{nil, func(x, y thing) int { panic("compare") }} {
		a, b := of("a", "1 2"), of("b", "3")
		is(t, "Both", sides(join.Both(a.row, b.row, compare)), "error 2")
		is(t, "Merge", brief(join.Merge(a.row, b.row, compare)), "error 2")
		is(t, "ended", a.ended == 2 && b.ended == 2, true)
		is(t, "not needed", sides(join.Both(a.row, of("b", "").row, compare)), "1a0/ 2a1/")
	}
	picky := func(x, y thing) int {
		if x.key == 3 {
			panic("compare")
		}
		return byKey(x, y)
	}
	for _, w := range []struct{ a, b, both, merge string }{
		{"1 3", "2 4", "1a0/ error 2", "1a0 error 2"},
		{"1 3", "1 2", "1a0/1b0 error 2", "1a0 1b0 error 2"},
		{"2 3", "1 2", "/1b0 2a0/2b1 3a1/", "1b0 2a0 2b1 3a1"},
	} {
		is(t, "later", sides(join.Both(of("a", w.a).row, of("b", w.b).row, picky)), w.both)
		is(t, "later", brief(join.Merge(of("a", w.a).row, of("b", w.b).row, picky)), w.merge)
	}
	for _, w := range []struct{ b, both, merge string }{
		{"", "1r/ error 2", "1r error 2"},
		{"2", "1r/ error 2", "1r error 2"},
		{"0 1 2", "/0b0 1r/1b1 error 2", "0b0 1r 1b1 error 2"},
	} {
		is(t, "a row that panics", sides(join.Both(rude, of("b", w.b).row, byKey)), w.both)
		is(t, "merged", brief(join.Merge(rude, of("b", w.b).row, byKey)), w.merge)
	}
	is(t, "on the right", sides(join.Both(of("a", "2").row, rude, byKey)), "/1r error 2")
	for range join.Both(rude, rude, byKey) {
		break // what it panics with behind that is nobody's
	}
	is(t, "no rows", sides(join.Both(nil, nil, byKey)), "")
	is(t, "no left row", sides(join.Both(nil, of("b", "1").row, byKey)), "/1b0")
	is(t, "no right row", brief(join.Merge(of("a", "1").row, nil, byKey)), "1a0")
}

// Whoever is left, or goes to the end, leaves nobody at work.
func TestNobodyStaysAtWork(t *testing.T) {
	ahead := runtime.NumGoroutine()
	for i := range 300 {
		n := 0
		for range join.Merge(of("a", "1 2 3").row, of("b", "2 3 !!").row, byKey) {
			n++
			if n == i%7 {
				break
			}
		}
	}
	for range 500 {
		if runtime.NumGoroutine() <= ahead {
			return
		}
		time.Sleep(time.Millisecond)
	}
	t.Errorf("at work: %d, wanted %d", runtime.NumGoroutine(), ahead)
}

// rising are keys by chance, rising, some of them twice, if they may be.
func rising(d *rand.Rand, from string, twice bool) *source {
	s := &source{}
	key := 0
	for i := range d.IntN(30) {
		key += d.IntN(4)
		if !twice {
			key++
		}
		s.l = append(s.l, step[thing]{x: thing{key, from + strconv.Itoa(i)}})
	}
	if d.IntN(3) == 0 {
		s.l = append(s.l, step[thing]{e: api.Errno(1 + d.IntN(30))})
	}
	return s
}

func TestByChance(t *testing.T) {
	d := rand.New(rand.NewPCG(30, 1))
	for range 3000 {
		a, b := rising(d, "a", false), rising(d, "b", false)
		l, _ := a.things()
		m, _ := b.things()
		want := expected(l, m)
		n, e := cut(want, a, b)
		alike(t, "Both", steps(join.Both(a.row, b.row, byKey)), ok(want[:n], e))
		alike(t, "Merge", steps(join.Merge(a.row, b.row, byKey)), ok(flat(want[:n]), e))
	}
}

// What is on the left sides is the left row; what is merged is both.
func TestNothingIsLost(t *testing.T) {
	d := rand.New(rand.NewPCG(30, 2))
	for range 1000 {
		a, b := rising(d, "a", true), rising(d, "b", true)
		l, ea := a.things()
		m, eb := b.things()
		if ea != api.OK || eb != api.OK {
			continue
		}
		var left, right []thing
		for s := range join.Both(a.row, b.row, byKey) {
			if s.HasLeft {
				left = append(left, s.Left)
			}
			if s.HasRight {
				right = append(right, s.Right)
			}
		}
		alike(t, "the left sides", left, l)
		alike(t, "the right sides", right, m)
		all := slices.Concat(l, m)
		slices.SortStableFunc(all, byKey)
		merged, e := join.List(join.Merge(a.row, b.row, byKey))
		is(t, "OK", e, api.OK)
		alike(t, "merged", merged, all)
	}
}
