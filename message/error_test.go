package message_test

import (
	"iter"
	"strings"
	"testing"

	"taproot/api"
	"taproot/disk"
	"taproot/message"
	"taproot/pager"
	"taproot/registry"
	"taproot/store"
	"taproot/txn"
)

// call is one on a writer: its error, and whether all else is zero.
type call func(w registry.Writer) (api.Errno, bool)

// last is a row's, as a call.
func last(r iter.Seq2[api.Message, api.Errno]) (api.Errno, bool) {
	var m api.Message
	var err api.Errno
	for x, e := range r {
		m, err = x, e
	}
	return err, m == api.Message{}
}

// calls are some of each, and how many steps they take of the pairs that there are.
func calls() map[string]struct {
	do    call
	steps int
} {
	only := func(e api.Errno) (api.Errno, bool) { return e, true }
	return map[string]struct {
		do    call
		steps int
	}{
		"Add": {func(w registry.Writer) (api.Errno, bool) { return only(message.Add(w, api.Message{Queue: "c"})) }, 2},
		"Add with a term": {func(w registry.Writer) (api.Errno, bool) {
			return only(message.Add(w, api.Message{Queue: "c", Expiry: 9}))
		}, 4},
		"Get": {func(w registry.Writer) (api.Errno, bool) {
			m, e := message.Get(w, "a", 1)
			return e, m == api.Message{}
		}, 1},
		"Save": {func(w registry.Writer) (api.Errno, bool) {
			return only(message.Save(w, api.Message{Queue: "a", ID: 2, Body: "new"}))
		}, 2},
		"Save with its term": {func(w registry.Writer) (api.Errno, bool) {
			return only(message.Save(w, api.Message{Queue: "a", ID: 1, Expiry: 5, Body: "new"}))
		}, 3},
		"Save with another term": {func(w registry.Writer) (api.Errno, bool) {
			return only(message.Save(w, api.Message{Queue: "a", ID: 1, Expiry: 9}))
		}, 5},
		"Take": {func(w registry.Writer) (api.Errno, bool) {
			m, e := message.Take(w, "a", 1)
			return e, m == api.Message{}
		}, 3},
		"Move": {func(w registry.Writer) (api.Errno, bool) {
			return only(message.Move(w, api.Message{Queue: "a", ID: 1}, api.Message{Queue: "b", ID: 1, Expiry: 9}))
		}, 7},
		"List": {func(w registry.Writer) (api.Errno, bool) { return last(message.List(w, "a", 0)) }, 4},
		"Due":  {func(w registry.Writer) (api.Errno, bool) { return last(message.Due(w, 6)) }, 5},
		"Count": {func(w registry.Writer) (api.Errno, bool) {
			n, e := message.Count(w, "a")
			return e, n == 0
		}, 4},
		"Clear": {func(w registry.Writer) (api.Errno, bool) {
			n, e := message.Clear(w, "a")
			return e, n == 0
		}, 9},
	}
}

// there are pairs with which each of these calls is OK: three messages of a, two of which expire.
func there() []api.Pair {
	return pairsOf(api.Message{Queue: "a", ID: 1, Expiry: 5, Body: "hi"}, api.Message{Queue: "a", ID: 2}, api.Message{Queue: "a", ID: 3, Expiry: 6}, api.Message{Queue: "b", ID: 9})
}

// The first error of a writer, at whichever step, is the answer, and nothing is asked behind it.
func TestFirstError(t *testing.T) {
	for name, call := range calls() {
		for _, err := range []api.Errno{api.ErrSum, api.ErrNone, api.ErrThere, api.ErrLost, api.ErrNil} {
			for left := range call.steps {
				w := &failing{Shelf: registry.New(there()...), t: t, left: left, err: err}
				e, zero := call.do(w)
				is(t, name+": the error", e, err)
				is(t, name+": beside it", zero, true)
				is(t, name+": it failed", w.gone, true)
			}
		}
		w := &failing{Shelf: registry.New(there()...), t: t, left: call.steps}
		e, _ := call.do(w)
		is(t, name+": OK", e, api.OK)
		is(t, name+": its steps", w.left, 0)
	}
}

// A Take or a Clear that was broken off, at whichever step, can be done again, and then nothing is left.
func TestBrokenOff(t *testing.T) {
	left := pairsOf(api.Message{Queue: "b", ID: 9})
	for steps := range calls()["Clear"].steps {
		w := &failing{Shelf: registry.New(there()...), t: t, left: steps, err: api.ErrFull}
		_, e := message.Clear(w, "a")
		is(t, "broken off", e, api.ErrFull)
		_, e = message.Clear(w.Shelf, "a")
		is(t, "cleared", e, api.OK)
		held(t, "the others", w.Shelf, left...)
	}
	for steps := range calls()["Take"].steps {
		w := &failing{Shelf: registry.New(there()...), t: t, left: steps, err: api.ErrFull}
		_, e := message.Take(w, "a", 1)
		is(t, "broken off", e, api.ErrFull)
		m, e := message.Take(w.Shelf, "a", 1)
		is(t, "taken", e, api.OK)
		is(t, "it", m, api.Message{Queue: "a", ID: 1, Expiry: 5, Body: "hi"})
		held(t, "the others", w.Shelf, there()[2:]...)
	}
}

// What a transaction has ended by, a view without a disk, and a page that isn't whole are told.
func TestErrorsOfTransactions(t *testing.T) {
	d, _ := disk.New(20)
	s, _ := store.Open(d)
	x, _ := s.Begin()
	for _, p := range there() {
		is(t, "put", x.Put(p.Key, p.Value), api.OK)
	}
	is(t, "committed", s.Commit(0), api.OK)
	for name, call := range calls() {
		e, zero := call.do(x)
		is(t, name+": ended", e, api.ErrClosed)
		is(t, name+": beside it", zero, true)
		e, zero = call.do((*txn.Txn)(nil))
		is(t, name+": no transaction", e, api.ErrNil)
		is(t, name+": beside it", zero, true)
	}
	m, e := message.Get((*txn.View)(nil), "a", 1)
	is(t, "no view", e, api.ErrNil)
	is(t, "no message", m, api.Message{})
	ended(t, "no view", message.List((*txn.View)(nil), "a", 0), api.ErrNil)
	want := api.Message{Queue: "a", ID: 1, Expiry: 5, Body: "hi"}
	got(t, s.Now(), want)
	alike(t, "due", all(t, message.Due(s.Now(), 5)), []api.Message{want})
	torn := s.Base()
	is(t, "a page of zeros", d.Write(torn.Root.Data, api.Page{}), api.OK)
	v := txn.Look(pager.New(d), torn)
	_, e = message.Get(v, "a", 1)
	is(t, "a page that isn't whole", e, api.ErrSum)
	n, e := message.Count(v, "a")
	is(t, "a page that isn't whole", n == 0 && e == api.ErrSum, true)
	ended(t, "a page that isn't whole", message.List(v, "a", 0), api.ErrSum)
	ended(t, "a page that isn't whole", message.Due(v, 5), api.ErrSum)
}

func TestBrokenMessages(t *testing.T) {
	right := bytes(api.Message{Expiry: 5, Body: "hi"})
	ahead, behind := api.Message{Queue: "a", ID: 1, Expiry: 4}, api.Message{Queue: "a", ID: 3, Expiry: 6}
	for value, want := range map[string]api.Errno{
		"": api.ErrShort, "\x01": api.ErrShort, right[:len(right)-1]: api.ErrShort, right + "\x00": api.ErrForm, "\x00" + right[1:]: api.ErrForm, "\x02" + right[1:]: api.ErrForm,
		bytes(api.Message{Expiry: 5, Body: strings.Repeat("b", api.MaxBody+1)}): api.ErrLong,
	} {
		l := append(pairsOf(ahead, behind), api.Pair{Key: key("a", 2), Value: value}, term(5, "a", 2))
		for what, w := range writers(t, l...) {
			m, e := message.Get(w, "a", 2)
			is(t, what+": Get", e, want)
			is(t, "no message", m, api.Message{})
			m, e = message.Take(w, "a", 2)
			is(t, what+": Take", e, want)
			is(t, "no message", m, api.Message{})
			is(t, what+": Save", message.Save(w, api.Message{Queue: "a", ID: 2}), want)
			is(t, what+": Move", message.Move(w, api.Message{Queue: "a", ID: 2}, api.Message{Queue: "c"}), want)
			is(t, what+": Add", message.Add(w, api.Message{Queue: "a", ID: 2}), api.ErrThere)
			ended(t, what+": List", message.List(w, "a", 0), want, ahead)
			ended(t, what+": List", message.List(w, "a", 2), want)
			alike(t, what+": List from behind it", all(t, message.List(w, "a", 3)), []api.Message{behind})
			ended(t, what+": Due", message.Due(w, 9), want, ahead)
			n, e := message.Count(w, "a")
			is(t, what+": Count", n == 0 && e == want, true)
			n, e = message.Clear(w, "a")
			is(t, what+": Clear", n == 0 && e == want, true)
			held(t, what+" has what it had", w, l...)
		}
	}
}

// Keys that begin like a message's or a term's, and are none, are told, too.
func TestBrokenKeys(t *testing.T) {
	m := api.Message{Queue: "a", ID: 1, Expiry: 5}
	for _, broken := range []string{laid("m", "a", uint64(2), "x"), laid("m", "a", uint64(2), uint64(2)), laid("m", "a", "x"), laid("m", "a") + "\x03"} {
		s := registry.New(append(pairsOf(m), api.Pair{Key: broken, Value: bytes(m)})...)
		ended(t, "List", message.List(s, "a", 0), api.ErrKey, m)
		n, e := message.Count(s, "a")
		is(t, "Count", n == 0 && e == api.ErrKey, true)
		n, e = message.Clear(s, "a")
		is(t, "Clear", n == 0 && e == api.ErrKey, true)
		alike(t, "Due", all(t, message.Due(s, 5)), []api.Message{m})
	}
	for _, broken := range []string{laid("e", uint64(5), "b"), laid("e", uint64(5), "b", "x"), laid("e", uint64(5), "b", uint64(1), uint64(1)), laid("e", uint64(5), "b") + "\x03"} {
		s := registry.New(append(pairsOf(m), api.Pair{Key: broken})...)
		ended(t, "Due", message.Due(s, 5), api.ErrKey, m)
		is(t, "Due ahead of it", len(all(t, message.Due(s, 4))), 0)
		alike(t, "List", all(t, message.List(s, "a", 0)), []api.Message{m})
	}
}

// panicking is a writer that does nothing else.
type panicking struct{ registry.Writer }

func (panicking) Get(string) (string, bool, api.Errno)                { panic("get") }
func (panicking) Range(string, string) iter.Seq2[api.Pair, api.Errno] { panic("range") }
func (panicking) Put(string, string) api.Errno                        { panic("put") }
func (panicking) Cut(string) (bool, api.Errno)                        { panic("cut") }

// A writer that isn't there, or panics, is an error.
func TestNoWriter(t *testing.T) {
	var none *failing
	for _, w := range []registry.Writer{nil, none, panicking{}} {
		for name, call := range calls() {
			e, zero := call.do(w)
			is(t, name+": the error", e, api.ErrArg)
			is(t, name+": beside it", zero, true)
		}
	}
}

// A shelf that isn't there has nothing.
func TestNoShelf(t *testing.T) {
	var none *registry.Shelf
	missing(t, none, "a", 1)
	is(t, "no messages", len(all(t, message.List(none, "a", 0))), 0)
	is(t, "none due", len(all(t, message.Due(none, 9))), 0)
	n, e := message.Count(none, "a")
	is(t, "none", n == 0 && e == api.OK, true)
}
