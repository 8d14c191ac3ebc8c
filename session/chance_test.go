package session_test

import (
	"maps"
	"math/rand/v2"
	"slices"
	"strings"
	"testing"

	"taproot/api"
	"taproot/broker"
	"taproot/command"
	"taproot/disk"
	"taproot/message"
	"taproot/registry"
	"taproot/session"
)

// run is a broker on a disk that is held against the abstract one.
type run struct {
	t         *testing.T
	r         *rand.Rand
	d         *disk.Disk
	b         *session.Broker
	is        abstract
	snaps     map[int]abstract
	commits   int
	wrong     int // batches with an error of a command's
	full      int // batches without a page
	olds      int // crashes behind which there was the old state
	news      int // ..the new one, though its Commit had an error
	delivered int
}

func started(t *testing.T, pages int, seed uint64) *run {
	t.Helper()
	d, b := fresh(t, pages)
	return &run{t: t, r: rand.New(rand.NewPCG(seed, 26)), d: d, b: b, is: memory(), snaps: map[int]abstract{}}
}

// one is any of some things.
func one[T any](r *rand.Rand, l ...T) T { return l[r.IntN(len(l))] }

// queue is a queue's name.
func (x *run) queue() string { return one(x.r, "a", "b", "c", "dead") }

// exchange is what a binding's or a publish's exchange, kind and key may be.
func (x *run) exchange() (string, int, string) {
	switch x.r.IntN(4) {
	case 0:
		return "direct", api.Direct, one(x.r, "k", "l")
	case 1:
		return "fan", api.Fanout, ""
	case 2:
		return "topic", api.Topic, one(x.r, "k.l", "k.*", "k.#", "#")
	}
	return one(x.r, "", "none"), api.Direct, x.queue()
}

// body is a message's.
func (x *run) body() string {
	return strings.Repeat(string(rune('a'+x.r.IntN(26))), one(x.r, 0, 3, 60, 399, 400, 5000, x.r.IntN(12000)))
}

// letter is one of the messages that are there, or one that isn't.
func (x *run) letter() (string, uint64, uint64) {
	var l []api.Message
	for k := range x.is.leases.All() {
		m, e := message.Get(x.is.shelf, k.Queue, k.ID)
		is(x.t, "what is lent is there", e, api.OK)
		l = append(l, m)
	}
	if len(l) == 0 || x.r.IntN(9) == 0 {
		return x.queue(), x.r.Uint64N(20), x.r.Uint64N(3)
	}
	m := one(x.r, l...)
	return m.Queue, m.ID, uint64(m.Tries)
}

// command is any.
func (x *run) command() command.Command {
	c := command.Command{Kind: 1 + x.r.IntN(13)}
	switch c.Kind {
	case command.Declare:
		c.Queue = api.Queue{Name: x.queue(), Most: one[uint32](x.r, 0, 0, 2, 5), TTL: one[uint64](x.r, 0, 0, 9), Tries: one[uint32](x.r, 0, 0, 1, 2)}
		if c.Queue.Name != "dead" {
			c.Queue.Dead = one(x.r, "", "dead", "dead", "b")
		}
	case command.Bind, command.Unbind:
		c.Binding.Exchange, c.Binding.Kind, c.Binding.Key = x.exchange()
		c.Binding.Queue = x.queue()
	case command.Publish:
		c.Exchange, _, c.Key = x.exchange()
		c.Key = strings.NewReplacer("*", "l", "#", "l").Replace(c.Key)
		c.Body, c.Time = x.body(), one[uint64](x.r, 0, 0, 4, 20)
	case command.Deliver:
		c.Queue.Name, c.N, c.Time = x.queue(), one[uint64](x.r, 1, 2, 9), one[uint64](x.r, 1, 5, 30)
	case command.Ack, command.Nack, command.Extend:
		c.Queue.Name, c.ID, c.Token = x.letter()
		c.Dead = c.Kind == command.Nack && x.r.IntN(2) == 0
		if c.Kind == command.Extend {
			c.Time = 7
		}
	case command.Tick:
		c.Time = x.r.Uint64N(4)
	default: // Drop, Purge, Stat and Browse
		c.Queue.Name = x.queue()
		if c.Kind == command.Browse {
			c.ID, c.N = x.r.Uint64N(9), 9
		}
	}
	if (c.Kind == command.Drop || c.Kind == command.Purge) && x.r.IntN(4) > 0 {
		return to(x.queue(), x.body())
	}
	return c
}

// commands are a batch: those that the abstract broker can do, and now and then another one.
func (x *run) commands() []command.Command {
	s := broker.State{W: x.is.copied(x.t).shelf, Leases: x.is.leases, Clock: x.is.clock}
	var l []command.Command
	for range x.r.IntN(7) {
		c := x.command()
		if x.r.IntN(40) > 0 && c.Kind != command.Drop { // one with an error changes nothing here: the kinds that may are few
			before := abstract{s.W.(*registry.Shelf), s.Leases, s.Clock}.copied(x.t)
			if s.Do(c).Err != api.OK {
				s = broker.State{W: before.shelf, Leases: before.leases, Clock: before.clock}
				continue
			}
		}
		l = append(l, c)
	}
	return l
}

// batch does one, and wants what the abstract broker says: or, without a page, nothing.
func (x *run) batch() {
	x.t.Helper()
	l, was := x.commands(), shown(x.t, x.b)
	next, want, e := x.is.batch(x.t, l)
	replies, got := x.b.Batch(l)
	if got == api.ErrFull {
		x.full++
		filled(x.t, replies)
		same(x.t, "without a page", x.b, was)
		return
	}
	is(x.t, "the answer", got, e)
	says(x.t, "what it says", replies, want)
	if e != api.OK {
		x.wrong++
		same(x.t, "with an error", x.b, was)
		return
	}
	if x.b.Now().Tx() != was.tx {
		x.commits++
	}
	for _, r := range replies {
		if len(r.List) > 0 {
			x.delivered++
		}
	}
	x.is = next
}

// look opens a snapshot, or closes one, and wants all to tell what was.
func (x *run) look() {
	x.t.Helper()
	switch x.r.IntN(6) {
	case 0:
		n, e := x.b.Snap()
		is(x.t, "Snap", e, api.OK)
		x.snaps[n] = x.is
	case 1, 2:
		if l := x.b.Store().Snaps(); len(l) > 0 {
			n := one(x.r, l...)
			is(x.t, "Close", x.b.Close(n), api.OK)
			delete(x.snaps, n)
		}
	}
	alike(x.t, "the snapshots", x.b.Store().Snaps(), slices.Sorted(maps.Keys(x.snaps)))
	for n, was := range x.snaps {
		x.through(n, was)
	}
}

// through wants a snapshot to tell of a queue what was.
func (x *run) through(n int, was abstract) {
	x.t.Helper()
	queue, from, most := x.queue(), x.r.Uint64N(20), 1+x.r.IntN(32)
	s := broker.State{W: was.shelf}
	want := s.Do(browse(queue, from, uint64(most)))
	l, e := x.b.Browse(n, queue, from, most)
	is(x.t, "a look", e, want.Err)
	alike(x.t, "a look", l, want.List)
}

// again lets the power go in a batch, or behind it, and opens the disk anew.
func (x *run) again() {
	x.t.Helper()
	l, was := x.commands(), shown(x.t, x.b)
	next, _, e := x.is.batch(x.t, l)
	x.d.Fuse(x.r.IntN(x.r.IntN(20) + 1))
	_, got := x.b.Batch(l)
	fates := make([]api.Fate, len(x.d.Waits()))
	for i := range fates {
		fates[i] = api.Fate{Kind: one(x.r, 0, 1, 1, 1, 2), Cut: x.r.IntN(513)}
	}
	x.d.Crash(fates)
	x.b = opened(x.t, x.d)
	switch {
	case got == api.OK: // committed, or there was nothing to write
		is(x.t, "it is right", e, api.OK)
		x.is = next
	case x.b.Now().Tx() != was.tx: // it was being committed
		is(x.t, "the power went", got, api.ErrPower)
		is(x.t, "it is right", e, api.OK)
		x.news++
		x.is = next
	default:
		x.olds++
	}
	x.is.leases, x.snaps = memory().leases, map[int]abstract{}
}

func TestByChance(t *testing.T) {
	commits, wrong, full, delivered := 0, 0, 0, 0
	for seed, pages := range []int{4, 8, 12, 20, 40, 100, 400} {
		x := started(t, pages, uint64(seed))
		for range 250 {
			x.batch()
			x.look()
			x.is.holds(t, "behind a batch", x.b)
		}
		commits, wrong, full, delivered = commits+x.commits, wrong+x.wrong, full+x.full, delivered+x.delivered
	}
	is(t, "all came often", commits > 300 && wrong > 80 && full > 80 && delivered > 80, true)
}

func TestCrashesByChance(t *testing.T) {
	olds, news := 0, 0
	for seed := range uint64(20) {
		x := started(t, 120, seed)
		for range 60 {
			x.batch()
			x.look()
			if x.r.IntN(2) == 0 {
				x.again()
			}
			x.is.holds(t, "behind a crash", x.b)
		}
		olds, news = olds+x.olds, news+x.news
	}
	is(t, "both came", olds > 50 && news > 10, true)
}
