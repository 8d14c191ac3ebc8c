package ask_test

import (
	"iter"
	"slices"
	"strings"
	"testing"

	"taproot/api"
	"taproot/ask"
)

func is[T comparable](t *testing.T, what string, got, want T) {
	t.Helper()
	if got != want {
		t.Errorf("%s: %v, wanted %v", what, got, want)
	}
}

// holder answers the same each time, or panics.
type holder struct {
	value  string
	there  bool
	err    api.Errno
	row    iter.Seq2[api.Pair, api.Errno]
	panics bool
}

func (h *holder) may() {
	if h.panics {
		panic("holder")
	}
}

func (h *holder) Get(string) (string, bool, api.Errno) { h.may(); return h.value, h.there, h.err }
func (h *holder) Put(string, string) api.Errno         { h.may(); return h.err }
func (h *holder) Cut(string) (bool, api.Errno)         { h.may(); return h.there, h.err }
func (h *holder) Range(string, string) iter.Seq2[api.Pair, api.Errno] {
	h.may()
	return h.row
}

// pair is one of a key.
func pair(key string) api.Pair { return api.Pair{Key: key, Value: "v" + key} }

// step is what a row gives once.
type step struct {
	p api.Pair
	e api.Errno
}

// row gives steps, and then panics, if it shall.
func row(panics bool, l ...step) iter.Seq2[api.Pair, api.Errno] {
	return func(yield func(api.Pair, api.Errno) bool) {
		for _, s := range l {
			if !yield(s.p, s.e) {
				return
			}
		}
		if panics {
			panic("row")
		}
	}
}

// steps are all that a row gives.
func steps(r iter.Seq2[api.Pair, api.Errno]) []step {
	var l []step
	for p, e := range r {
		l = append(l, step{p, e})
	}
	return l
}

func TestWhatIsAnswered(t *testing.T) {
	for _, h := range []*holder{{}, {value: "v", there: true}, {value: "v"}, {value: "v", there: true, err: api.ErrSum}, {err: api.ErrNone}} {
		value, there, e := ask.Get(h, "a")
		ok := h.there && h.err == api.OK
		is(t, "the error", e, h.err)
		is(t, "there", there, ok)
		is(t, "a value, but beside an error, or where none is", value == "v", ok)
		there, e = ask.Cut(h, "a")
		is(t, "the error", e, h.err)
		is(t, "cut", there, ok)
		is(t, "put", ask.Put(h, "a", "b"), h.err)
	}
}

func TestWhoeverPanicsOrIsntThere(t *testing.T) {
	var none *holder
	for _, h := range []interface {
		ask.Getter
		ask.Ranger
		ask.Putter
		ask.Cutter
	}{nil, none, &holder{panics: true, value: "v", there: true}} {
		value, there, e := ask.Get(h, "a")
		is(t, "get", e, api.ErrArg)
		is(t, "nothing", there || value != "", false)
		is(t, "put", ask.Put(h, "a", "b"), api.ErrArg)
		there, e = ask.Cut(h, "a")
		is(t, "cut", e, api.ErrArg)
		is(t, "nothing", there, false)
		is(t, "range", slices.Equal(steps(ask.Range(h, "", "")), []step{{e: api.ErrArg}}), true)
	}
}

func TestRange(t *testing.T) {
	a, b, wrong := step{p: pair("a")}, step{p: pair("b")}, step{pair("c"), api.ErrSum}
	rows := []struct {
		what string
		r    iter.Seq2[api.Pair, api.Errno]
		want []step
	}{
		{"nothing", row(false), nil},
		{"pairs", row(false, a, b), []step{a, b}},
		{"an error ends it", row(false, a, wrong, b), []step{a, {e: api.ErrSum}}},
		{"a panic ends it", row(true, a, b), []step{a, b, {e: api.ErrArg}}},
		{"a panic behind an error isn't reached", row(true, a, wrong), []step{a, {e: api.ErrSum}}},
		{"no row", nil, []step{{e: api.ErrArg}}},
	}
	for _, x := range rows {
		r := ask.Range(&holder{row: x.r}, "", "")
		for range 2 {
			is(t, x.what, slices.Equal(steps(r), x.want), true)
		}
		for most := range len(x.want) {
			n := 0
			for range r {
				n++
				if n > most {
					break
				}
			}
			is(t, x.what+": left", n, most+1)
		}
	}
}

// A row that goes on behind its end is ended all the same.
func TestRangeOfARowThatGoesOn(t *testing.T) {
	on := func(yield func(api.Pair, api.Errno) bool) {
		for range 5 {
			yield(pair("a"), api.ErrSum)
		}
	}
	is(t, "behind an error", slices.Equal(steps(ask.Range(&holder{row: on}, "", "")), []step{{e: api.ErrSum}}), true)
	on = func(yield func(api.Pair, api.Errno) bool) {
		for range 5 {
			yield(pair("a"), api.OK)
		}
	}
	n := 0
	for range ask.Range(&holder{row: on}, "", "") {
		n++
		break
	}
	is(t, "behind where it was left", n, 1)
}

// Whoever goes through a row has their panics themselves.
func TestRangeLeavesPanicsOfOthers(t *testing.T) {
	for _, r := range []iter.Seq2[api.Pair, api.Errno]{row(false, step{p: pair("a")}), row(false, step{e: api.ErrSum}), nil} {
		n := 0
		func() {
			defer func() { is(t, "the panic", recover() == "mine", true) }()
			for range ask.Range(&holder{row: r}, "", "") {
				n++
				panic("mine")
			}
		}()
		is(t, "once", n, 1)
	}
}

// A row of things of any sort is held to the same; one that isn't there is empty.
func TestRow(t *testing.T) {
	numbers := func(yield func(int, api.Errno) bool) {
		if yield(1, api.OK) && yield(2, api.OK) {
			yield(3, api.ErrSum)
			panic("behind an error")
		}
		panic("left")
	}
	row := ask.Row(numbers)
	for range 2 {
		var l []told
		for n, e := range row {
			l = append(l, told{n, e})
		}
		is(t, "its things, and the error", slices.Equal(l, []told{{n: 1}, {n: 2}, {e: api.ErrSum}}), true)
	}
	for n, e := range row {
		is(t, "left", n == 1 && e == api.OK, true)
		break
	}
	for range ask.Row[int](nil) {
		t.Errorf("no row: something")
	}
}

// number is how many letters a value has, where these are v alone.
func number(value string) (int, api.Errno) {
	if strings.Trim(value, "v") != "" {
		return 99, api.ErrForm
	}
	return len(value), api.OK
}

func TestThing(t *testing.T) {
	for _, x := range []struct {
		h     *holder
		n     int
		there bool
		e     api.Errno
	}{
		{&holder{value: "vv", there: true}, 2, true, api.OK},
		{&holder{there: true}, 0, true, api.OK},
		{&holder{value: "vv"}, 0, false, api.OK},
		{&holder{value: "x"}, 0, false, api.OK},
		{&holder{value: "x", there: true}, 0, false, api.ErrForm},
		{&holder{value: "vv", there: true, err: api.ErrSum}, 0, false, api.ErrSum},
		{&holder{panics: true}, 0, false, api.ErrArg},
		{nil, 0, false, api.ErrArg},
	} {
		n, there, e := ask.Thing(x.h, "a", number)
		is(t, "the error", e, x.e)
		is(t, "there", there, x.there)
		is(t, "the thing", n, x.n)
	}
}

// told is what a row of numbers gives once.
type told struct {
	n int
	e api.Errno
}

func TestThings(t *testing.T) {
	one, two, broken := step{p: api.Pair{Value: "v"}}, step{p: api.Pair{Value: "vv"}}, step{p: api.Pair{Value: "x"}}
	rows := []struct {
		what string
		r    iter.Seq2[api.Pair, api.Errno]
		want []told
	}{
		{"nothing", row(false), nil},
		{"things", row(false, one, two), []told{{n: 1}, {n: 2}}},
		{"an error ends it", row(false, one, step{two.p, api.ErrSum}, two), []told{{n: 1}, {e: api.ErrSum}}},
		{"what can't be read ends it", row(false, one, broken, two), []told{{n: 1}, {e: api.ErrForm}}},
		{"a panic ends it", row(true, one), []told{{n: 1}, {e: api.ErrArg}}},
		{"no row", nil, []told{{e: api.ErrArg}}},
	}
	for _, x := range rows {
		things := ask.Things(&holder{row: x.r}, "", "", func(p api.Pair) (int, api.Errno) { return number(p.Value) })
		for range 2 {
			var l []told
			for n, e := range things {
				l = append(l, told{n, e})
			}
			is(t, x.what, slices.Equal(l, x.want), true)
		}
		for most := range len(x.want) {
			n := 0
			for range things {
				n++
				if n > most {
					break
				}
			}
			is(t, x.what+": left", n, most+1)
		}
	}
}
