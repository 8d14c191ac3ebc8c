package broker_test

import (
	"iter"
	"testing"

	"taproot/api"
	"taproot/broker"
	"taproot/command"
	"taproot/lease"
	"taproot/registry"
	"taproot/txn"
)

// failing is a writer of which one step fails: then it tells the error beside what it has, and must not be asked any more.
type failing struct {
	*registry.Shelf
	t    *testing.T
	left int // steps ahead of that
	err  api.Errno
	gone bool
}

// step is the error of the next one.
func (f *failing) step() api.Errno {
	if f.gone {
		f.t.Errorf("asked behind an error")
	}
	f.left--
	if f.left >= 0 {
		return api.OK
	}
	f.gone = true
	return f.err
}

func (f *failing) Get(key string) (string, bool, api.Errno) {
	value, there, _ := f.Shelf.Get(key)
	return value, there, f.step()
}

func (f *failing) Range(from, to string) iter.Seq2[api.Pair, api.Errno] {
	return func(yield func(api.Pair, api.Errno) bool) {
		for p := range f.Shelf.Range(from, to) {
			e := f.step()
			if !yield(p, e) || e != api.OK {
				return
			}
		}
		if e := f.step(); e != api.OK { // behind the last pair, too
			yield(api.Pair{Key: "a"}, e)
		}
	}
}

func (f *failing) Put(key, value string) api.Errno {
	if e := f.step(); e != api.OK {
		return e
	}
	return f.Shelf.Put(key, value)
}

func (f *failing) Cut(key string) (bool, api.Errno) {
	if e := f.step(); e != api.OK {
		return true, e
	}
	return f.Shelf.Cut(key)
}

// panicking is a writer that panics.
type panicking struct{ registry.Writer }

// stocked is a state in which each command of calls is done, but for one: a has three messages, of which 2 is lent; its dead letters go to b, which is full.
func stocked(t *testing.T) *broker.State {
	t.Helper()
	s := fresh()
	done(t, s, declare(api.Queue{Name: "b", Most: 1, TTL: 9}), declare(api.Queue{Name: "a", Most: 3, Dead: "b", Tries: 1}),
		bind(command.Bind, "x", api.Fanout, "", "a"), bind(command.Bind, "x", api.Fanout, "", "b"),
		to("b", "4"), publish("", "a", "1", 3), publish("", "a", "2", 4), to("a", "3"), deliver("a", 2, 5), nack("a", 3, 1, false))
	return s
}

// calls are some of each kind, and how many steps they take at least.
func calls() []struct {
	c     command.Command
	steps int
} {
	return []struct {
		c     command.Command
		steps int
	}{
		{declare(api.Queue{Name: "c", Dead: "b"}), 3}, {drop("a"), 15}, {bind(command.Bind, "x", api.Fanout, "", "a"), 0}, {bind(command.Bind, "y", api.Direct, "k", "a"), 4},
		{bind(command.Unbind, "x", api.Fanout, "", "a"), 1}, {publish("x", "k", "new", 5), 20}, {deliver("a", 2, 5), 12},
		{ack("a", 2, 1), 3}, {nack("a", 2, 1, false), 1}, {nack("a", 2, 1, true), 10}, {extend("a", 2, 1, 9), 1},
		{purge("a"), 9}, {tick(9), 20}, {stat("a"), 5}, {browse("a", 0, 9), 5},
	}
}

// The first error of a writer, at whichever step, is all that is told, and nothing is asked behind it.
func TestFirstError(t *testing.T) {
	for _, x := range calls() {
		for _, err := range []api.Errno{api.ErrSum, api.ErrFull, api.ErrClosed, api.ErrLost} {
			left := 0
			for {
				s := stocked(t)
				w := &failing{Shelf: s.W.(*registry.Shelf), t: t, left: left, err: err}
				s.W = w
				r := s.Do(x.c)
				if !w.gone {
					break
				}
				says(t, "the error of "+kind(x.c.Kind), r, wrong(err))
				left++
			}
			if left < x.steps {
				t.Errorf("%s took %d steps", kind(x.c.Kind), left)
			}
		}
	}
}

func TestErrorsOfTransactions(t *testing.T) {
	base := newStore(t, 20)
	x, _ := base.Begin()
	s := &broker.State{W: x, Leases: lease.Keys()}
	done(t, s, declare(api.Queue{Name: "a"}), to("a", "hi"))
	is(t, "aborted", base.Abort(), api.OK)
	for _, call := range calls() {
		says(t, "ended: "+kind(call.c.Kind), s.Do(call.c), wrong(api.ErrClosed))
	}
	s = &broker.State{W: (*txn.Txn)(nil)}
	for _, call := range calls() {
		says(t, "no transaction: "+kind(call.c.Kind), s.Do(call.c), wrong(api.ErrNil))
	}
}

// A disk that is full is told, and what is done anew on another transaction goes.
func TestFullDisk(t *testing.T) {
	base := newStore(t, 12)
	x, _ := base.Begin()
	s := &broker.State{W: x, Leases: lease.Keys()}
	done(t, s, declare(api.Queue{Name: "a"}))
	body := string(make([]byte, 5000))
	for at := uint64(1); ; at++ {
		r := s.Do(to("a", body))
		if r.Err != api.OK {
			says(t, "full", r, wrong(api.ErrFull))
			is(t, "some went", at > 2, true)
			break
		}
		says(t, "it goes", r, ids(at))
	}
	is(t, "aborted", base.Abort(), api.OK)
	x, _ = base.Begin()
	s.W = x
	run(t, s, step{declare(api.Queue{Name: "a"}), ok}, step{to("a", "hi"), ids(1)})
}

// Broken pairs are told by layer 19's errors.
func TestBrokenPairs(t *testing.T) {
	for _, x := range []struct {
		what   string
		broken api.Pair
		e      api.Errno
		l      []command.Command
	}{
		{"a queue", api.Pair{Key: laid("q", "a"), Value: "\x02"}, api.ErrForm,
			[]command.Command{declare(api.Queue{Name: "a"}), drop("a"), to("a", "hi"), deliver("a", 1, 1), nack("a", 2, 1, true), purge("a"), stat("a"), browse("a", 0, 1), tick(9)}},
		{"a queue of dead letters", api.Pair{Key: laid("q", "b"), Value: "\x01"}, api.ErrShort, []command.Command{nack("a", 2, 1, true), deliver("a", 1, 1), tick(9)}},
		{"a message", api.Pair{Key: laid("m", "a", uint64(2)), Value: "\x01"}, api.ErrShort,
			[]command.Command{drop("a"), to("a", "hi"), deliver("a", 1, 1), ack("a", 2, 1), nack("a", 2, 1, false), extend("a", 2, 1, 1), purge("a"), stat("a"), browse("a", 0, 9), tick(9)}},
		{"a counter", api.Pair{Key: laid("c", "id"), Value: "\x01"}, api.ErrShort, []command.Command{to("a", "hi")}},
		{"a counter at its end", counterPair(1<<64 - 1), api.ErrRange, []command.Command{to("a", "hi")}},
		{"a term of none", api.Pair{Key: laid("e", uint64(3), "a", uint64(7))}, api.ErrLost, []command.Command{tick(9)}},
		{"a binding", api.Pair{Key: laid("b", "x", uint64(2), "", "a"), Value: "\x01"}, api.ErrForm, []command.Command{publish("x", "k", "hi", 0), drop("a"), bind(command.Bind, "x", api.Fanout, "", "b")}},
	} {
		for _, c := range x.l {
			s := stocked(t)
			s.W.Put(x.broken.Key, x.broken.Value)
			says(t, x.what+": "+kind(c.Kind), s.Do(c), wrong(x.e))
		}
	}
	s := stocked(t)
	s.W.Put(laid("m", "a", uint64(4)), "\x01")
	run(t, s,
		step{browse("a", 0, 2), list(api.Message{Queue: "a", ID: 2, Tries: 1, Expiry: 3, Body: "1"}, api.Message{Queue: "a", ID: 3, Tries: 1, Expiry: 4, Body: "2"})}, // no further
		step{browse("a", 0, 3), wrong(api.ErrShort)},
	)
}

func TestNothingPanics(t *testing.T) {
	var none *broker.State
	for _, call := range append(calls(), calls()[0]) {
		says(t, "no state", none.Do(call.c), wrong(api.ErrNil))
		for _, s := range []*broker.State{{}, {W: panicking{}}} {
			is(t, "an error", s.Do(call.c).Err != api.OK, true)
		}
	}
	says(t, "no state", none.Do(command.Command{}), wrong(api.ErrNil))
	s := stocked(t)
	s.Leases = lease.New(func(a, b lease.Key) int { panic("compare") }).Lend(of("a", 2, 5).Key, 5)
	run(t, s, step{deliver("a", 1, 5), broker.Reply{Dead: []uint64{3}, Lost: []uint64{1}, List: []api.Message{mail("a", 4, 1, "3")}}})
}
