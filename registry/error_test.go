package registry_test

import (
	"iter"
	"strings"
	"testing"

	"taproot/api"
	"taproot/disk"
	"taproot/pager"
	"taproot/registry"
	"taproot/store"
	"taproot/txn"
)

// calls are one of each, and answer the error, and whether all else is zero, where there is one.
func calls() map[string]func(w registry.Writer) (api.Errno, bool) {
	b := binding("f", 2, "", "b")
	only := func(e api.Errno) (api.Errno, bool) { return e, true }
	return map[string]func(w registry.Writer) (api.Errno, bool){
		"Find": func(w registry.Writer) (api.Errno, bool) {
			q, e := registry.Find(w, "a")
			return e, q == api.Queue{}
		},
		"Declare": func(w registry.Writer) (api.Errno, bool) { return only(registry.Declare(w, api.Queue{Name: "c"})) },
		"Declare with a Dead": func(w registry.Writer) (api.Errno, bool) {
			return only(registry.Declare(w, api.Queue{Name: "c", Dead: "a"}))
		},
		"Drop": func(w registry.Writer) (api.Errno, bool) { return only(registry.Drop(w, "a")) },
		"Queues": func(w registry.Writer) (api.Errno, bool) {
			var last api.Queue
			var err api.Errno
			for q, e := range registry.Queues(w) {
				last, err = q, e
			}
			return err, last == api.Queue{}
		},
		"Bind":   func(w registry.Writer) (api.Errno, bool) { return only(registry.Bind(w, b)) },
		"Unbind": func(w registry.Writer) (api.Errno, bool) { return only(registry.Unbind(w, binding("f", 2, "", "a"))) },
		"Bindings": func(w registry.Writer) (api.Errno, bool) {
			var last api.Binding
			var err api.Errno
			for b, e := range registry.Bindings(w, "f") {
				last, err = b, e
			}
			return err, last == api.Binding{}
		},
		"Route": func(w registry.Writer) (api.Errno, bool) {
			l, e := registry.Route(w, "f", "k")
			return e, len(l) == 0
		},
		"Route by no exchange": func(w registry.Writer) (api.Errno, bool) {
			l, e := registry.Route(w, "", "a")
			return e, len(l) == 0
		},
		"Next": func(w registry.Writer) (api.Errno, bool) {
			n, e := registry.Next(w, "id")
			return e, n == 0
		},
	}
}

// some are pairs with which each of these calls is OK.
func some() []api.Pair {
	return append(declared("a", "b"), bindPair(binding("f", 2, "", "a")), bindPair(binding("g", 1, "k", "a")), bindPair(binding("g", 1, "l", "b")), counterPair("id", 7))
}

// The first error of a writer, at whichever step, is the answer, and nothing is asked behind it.
func TestFirstError(t *testing.T) {
	steps := map[string]int{
		"Find": 1, "Declare": 2, "Declare with a Dead": 3, "Drop": 8, "Queues": 3, "Bind": 5, "Unbind": 1, "Bindings": 2, "Route": 2, "Route by no exchange": 1, "Next": 2,
	}
	for name, call := range calls() {
		for _, err := range []api.Errno{api.ErrSum, api.ErrNone, api.ErrThere, api.ErrNil} {
			for left := range steps[name] {
				w := &failing{Shelf: registry.New(some()...), t: t, left: left, err: err}
				e, zero := call(w)
				is(t, name+": the error", e, err)
				is(t, name+": beside it", zero, true)
				is(t, name+": it failed", w.gone, true)
			}
		}
		w := &failing{Shelf: registry.New(some()...), t: t, left: steps[name]}
		e, _ := call(w)
		is(t, name+": OK", e, api.OK)
		is(t, name+": its steps", w.left, 0)
	}
}

// What a transaction has ended by, a view without a disk, and a page that isn't whole are told.
func TestErrorsOfTransactions(t *testing.T) {
	d, _ := disk.New(20)
	s, _ := store.Open(d)
	x, _ := s.Begin()
	for _, p := range some() {
		is(t, "put", x.Put(p.Key, p.Value), api.OK)
	}
	is(t, "committed", s.Commit(0), api.OK)
	for name, call := range calls() {
		e, zero := call(x)
		is(t, name+": ended", e, api.ErrClosed)
		is(t, name+": beside it", zero, true)
		e, zero = call((*txn.Txn)(nil))
		is(t, name+": no transaction", e, api.ErrNil)
		is(t, name+": beside it", zero, true)
	}
	q, e := registry.Find((*txn.View)(nil), "a")
	is(t, "no view", e, api.ErrNil)
	is(t, "no queue", q, api.Queue{})
	ended(t, "no view", registry.Queues(txn.Look(nil, txn.Base{})), 0, api.ErrNil)
	found(t, s.Now(), api.Queue{Name: "a"})
	routed(t, s.Now(), "f", "k", "a")
	torn := s.Base()
	is(t, "a page of zeros", d.Write(torn.Root.Data, api.Page{}), api.OK)
	v := txn.Look(pager.New(d), torn)
	_, e = registry.Find(v, "a")
	is(t, "a page that isn't whole", e, api.ErrSum)
	ended(t, "a page that isn't whole", registry.Queues(v), 0, api.ErrSum)
	ended(t, "a page that isn't whole", registry.Bindings(v, "f"), 0, api.ErrSum)
}

func TestBrokenQueues(t *testing.T) {
	right := queueBytes(api.Queue{Name: "b"})
	broken := map[string]api.Errno{
		"": api.ErrShort, "\x01": api.ErrShort, right[:len(right)-1]: api.ErrShort, right + "\x00": api.ErrForm, "\x02" + right[1:]: api.ErrForm, "hi": api.ErrForm,
		queueBytes(api.Queue{Dead: strings.Repeat("d", api.MaxName+1)}): api.ErrLong,
	}
	for value, want := range broken {
		l := append(declared("a", "c"), api.Pair{Key: queueKey("b"), Value: value}, bindPair(binding("x", 1, "k", "b")))
		for what, w := range writers(t, l...) {
			q, e := registry.Find(w, "b")
			is(t, what+": Find", e, want)
			is(t, "no queue", q, api.Queue{})
			is(t, what+": Declare", registry.Declare(w, api.Queue{Name: "b"}), want)
			is(t, what+": Declare with that Dead", registry.Declare(w, api.Queue{Name: "d", Dead: "b"}), want)
			is(t, what+": Drop", registry.Drop(w, "b"), want)
			ended(t, what+": Queues", registry.Queues(w), 1, want)
			is(t, what+": Bind", registry.Bind(w, binding("x", 1, "l", "b")), want)
			routes, e := registry.Route(w, "", "b")
			is(t, what+": Route", e, want)
			is(t, "none", len(routes), 0)
			held(t, what+" has what it had", w, l...)
			found(t, w, api.Queue{Name: "a"})
			routed(t, w, "x", "k", "b")
			is(t, what+": another one", registry.Declare(w, api.Queue{Name: "d", Dead: "a"}), api.OK)
		}
	}
}

func TestBrokenCounters(t *testing.T) {
	right := counterPair("id", 7).Value
	for value, want := range map[string]api.Errno{"": api.ErrShort, right[:8]: api.ErrShort, right + "\x00": api.ErrForm, "\x00" + right[1:]: api.ErrForm} {
		for what, w := range writers(t, api.Pair{Key: laid("c", "id"), Value: value}) {
			n, e := registry.Next(w, "id")
			is(t, what+": Next", e, want)
			is(t, "no number", n, 0)
			held(t, what+" has what it had", w, api.Pair{Key: laid("c", "id"), Value: value})
			n, e = registry.Next(w, "di")
			is(t, what+": another one", n == 1 && e == api.OK, true)
		}
	}
}

func TestBrokenBindings(t *testing.T) {
	for _, x := range []struct {
		broken api.Pair
		want   api.Errno
	}{
		{api.Pair{Key: bindKey(binding("x", 1, "k", "b")), Value: "hi"}, api.ErrForm},
		{api.Pair{Key: laid("b", "x", 1, "k")}, api.ErrKey},
		{api.Pair{Key: laid("b", "x", "1", "k", "b")}, api.ErrKey},
		{api.Pair{Key: laid("b", "x", 1, "k", "b", "b")}, api.ErrKey},
	} {
		l := append(declared("a", "b"), x.broken, bindPair(binding("x", 1, "a", "a")), bindPair(binding("w", 1, "a", "b")))
		for what, w := range writers(t, l...) {
			ahead := 0
			if x.broken.Key > bindKey(binding("x", 1, "a", "a")) {
				ahead = 1
			}
			ended(t, what+": Bindings", registry.Bindings(w, "x"), ahead, x.want)
			is(t, what+": Bind", registry.Bind(w, binding("x", 1, "c", "a")), x.want)
			l2, e := registry.Route(w, "x", "k")
			is(t, what+": Route", e, x.want)
			is(t, "none", len(l2), 0)
			is(t, what+": Drop", registry.Drop(w, "a"), x.want)
			held(t, what+" has what it had", w, l...)
			routed(t, w, "w", "a", "b")
			is(t, what+": another exchange's", registry.Bind(w, binding("w", 1, "c", "a")), api.OK)
		}
	}
}

// A key that begins like a queue's, and is none, is told, too.
func TestBrokenKeys(t *testing.T) {
	for _, key := range []string{laid("q"), laid("q", 7), laid("q", "b", "b"), laid("q") + "\x03"} {
		s := registry.New(append(declared("b0"), api.Pair{Key: key, Value: queueBytes(api.Queue{})})...)
		n := 0
		if key > queueKey("b0") {
			n = 1
		}
		ended(t, "Queues", registry.Queues(s), n, api.ErrKey)
	}
}

// panicking is a writer that does nothing else.
type panicking struct{ registry.Writer }

func (panicking) Get(string) (string, bool, api.Errno)                { panic("get") }
func (panicking) Range(string, string) iter.Seq2[api.Pair, api.Errno] { panic("range") }
func (panicking) Put(string, string) api.Errno                        { panic("put") }
func (panicking) Cut(string) (bool, api.Errno)                        { panic("cut") }

// A writer that isn't there, or panics, is an error.
func TestNoWriter(t *testing.T) {
	var none *failing
	for _, w := range []registry.Writer{nil, none, panicking{}} {
		for name, call := range calls() {
			e, zero := call(w)
			is(t, name+": the error", e, api.ErrArg)
			is(t, name+": beside it", zero, true)
		}
	}
}
