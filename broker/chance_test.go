package broker_test

import (
	"maps"
	"math/rand/v2"
	"slices"
	"strings"
	"testing"

	"taproot/api"
	"taproot/broker"
	"taproot/command"
	"taproot/registry"
)

// dice makes commands, mostly such as do something.
type dice struct{ *rand.Rand }

func (d dice) of(l ...string) string { return l[d.IntN(len(l))] }

func (d dice) queue() string {
	if d.IntN(30) == 0 {
		return d.of("", "none", "a.b", strings.Repeat("n", 33))
	}
	return d.of("a", "b", "cc", "dd")
}

// number is one up to most, but for a few.
func (d dice) number(most uint64) uint64 {
	if d.IntN(25) == 0 {
		return []uint64{0, 33, 1 << 40, 1<<40 + 1, 1<<64 - 1}[d.IntN(5)]
	}
	return 1 + d.Uint64N(most)
}

func (d dice) declare() command.Command {
	q := api.Queue{Name: d.queue(), Most: d.Uint32N(5), TTL: d.Uint64N(2) * d.Uint64N(12), Tries: d.Uint32N(4), Dead: d.of("", "a", "b", "cc", "dd")}
	if d.IntN(20) == 0 {
		q.TTL = d.number(9)
	}
	return declare(q)
}

func (d dice) bind() command.Command {
	k := 1 + d.IntN(3)
	key := map[int]string{api.Direct: d.of("k", "k.l"), api.Fanout: "", api.Topic: d.of("#", "k.*", "*")}[k]
	return bind(command.Bind+d.IntN(2)*d.IntN(2), map[int]string{api.Direct: "x", api.Fanout: "y", api.Topic: "z"}[k], k, key, d.queue())
}

func (d dice) publish() command.Command {
	body := d.of("", "hi", strings.Repeat("b", d.IntN(600)), strings.Repeat("c", d.IntN(6000)))
	c := publish(d.of("x", "y", "z", "x", "y", "z", "none", "*"), d.of("k", "k.l", "k", "k.l", "l", "", ".."), body, d.Uint64N(2)*d.number(12))
	if d.IntN(3) > 0 {
		c.Exchange, c.Key = "", d.queue()
	}
	return c
}

// token is an Ack, a Nack or an Extend, mostly of what is lent.
func (d dice) token(x *model) command.Command {
	c := token(command.Ack+d.IntN(3), d.queue(), d.number(x.last+1), d.number(3))
	l := slices.DeleteFunc(slices.Clone(x.letters), func(l *letter) bool { return !l.lent && d.IntN(20) > 0 })
	if len(l) > 0 && d.IntN(10) > 0 {
		l := l[d.IntN(len(l))]
		c.Queue.Name, c.ID, c.Token = l.Queue, l.ID, uint64(l.Tries)
	}
	switch c.Kind {
	case command.Nack:
		c.Dead = d.IntN(2) == 0
	case command.Extend:
		c.Time = d.number(9)
	}
	return c
}

func (d dice) command(x *model) command.Command {
	switch d.IntN(40) {
	case 0, 1, 2:
		return d.declare()
	case 3:
		return drop(d.queue())
	case 4, 5, 6:
		return d.bind()
	case 7, 8, 9, 10, 11, 12, 13, 14, 15, 16:
		return d.publish()
	case 17, 18, 19, 20, 21, 22, 23:
		return deliver(d.queue(), d.number(4), d.number(9))
	case 24, 25, 26, 27, 28, 29:
		return d.token(x)
	case 30:
		return purge(d.queue())
	case 31, 32, 33, 34:
		return tick(d.number(3) * d.Uint64N(2))
	case 35, 36:
		return stat(d.queue())
	case 37, 38:
		return browse(d.queue(), d.Uint64N(x.last+2), d.number(5))
	default:
		return command.Command{Kind: d.IntN(15), Queue: api.Queue{Name: d.queue()}, ID: d.Uint64N(2), Dead: d.IntN(2) == 0}
	}
}

// gone holds the numbers that were taken away against those that are there.
func gone(t *testing.T, c command.Command, r broker.Reply, was, now []uint64, l map[uint64]string) {
	t.Helper()
	for _, id := range now {
		is(t, "what was taken away comes again", l[id], "")
	}
	missing := slices.DeleteFunc(was, func(id uint64) bool { return slices.Contains(now, id) })
	for _, id := range missing {
		l[id] = kind(c.Kind)
	}
	switch {
	case c.Kind == command.Ack && r.Err == api.OK:
		alike(t, "the one that was acked", missing, []uint64{c.ID})
	case c.Kind == command.Drop || c.Kind == command.Purge:
		is(t, "all that were taken away", uint64(len(missing)), r.N)
	default:
		alike(t, "all that were lost", missing, slices.Sorted(slices.Values(r.Lost)))
	}
}

// Shelves and transactions against the model: what is said, and what stands then.
func TestByChance(t *testing.T) {
	seen := map[string]int{}
	for what := range states(t, 400) {
		for seed := range uint64(10) {
			d := dice{rand.New(rand.NewPCG(25, seed))}
			s, x := states(t, 1500)[what], &model{w: registry.New()}
			l := map[uint64]string{}
			for range 700 {
				c, was := d.command(x), x.places(t)
				got, want := s.Do(c), x.do(c)
				says(t, what+": "+kind(c.Kind), got, want)
				is(t, "the same", broker.Same(got, want), true)
				x.holds(t, what+": "+kind(c.Kind), s)
				gone(t, c, got, was, x.places(t), l)
				count(seen, c, got)
				if t.Failed() {
					t.FailNow()
				}
			}
		}
	}
	for _, what := range []string{"ack, taken", "nack, dead", "nack, lost", "deliver, lost", "deliver, dead", "tick, dead", "tick, lost", "publish, lost", "publish, more", "tick, back", "stat, lent", "extend, taken"} {
		if seen[what] < 10 {
			t.Errorf("chance made too little of %s: %v", what, seen)
		}
	}
}

// count counts what became of commands.
func count(seen map[string]int, c command.Command, r broker.Reply) {
	name := kind(c.Kind)
	for what, so := range map[string]bool{
		"taken": r.Err == api.OK, "dead": len(r.Dead) > 0, "lost": len(r.Lost) > 0, "more": len(r.IDs) > 1,
		"back": c.Kind == command.Tick && r.N > 0, "lent": len(r.IDs) > 0,
	} {
		if so {
			seen[name+", "+what]++
		}
	}
}

// What is committed is told by a state on another transaction, whose leases and clock are handed on, as by the model.
func TestOnTransactions(t *testing.T) {
	d := dice{rand.New(rand.NewPCG(25, 99))}
	base, x := newStore(t, 600), &model{w: registry.New()}
	s := *fresh()
	for range 25 {
		w, e := base.Begin()
		is(t, "a transaction", e, api.OK)
		s.W = w
		for range 25 {
			c := d.command(x)
			says(t, kind(c.Kind), s.Do(c), x.do(c))
		}
		x.holds(t, "ahead of a commit", &s)
		is(t, "committed", base.Commit(s.Clock), api.OK)
		is(t, "the clock", base.Base().Root.Clock, x.clock)
		ended := maps.Collect(s.Leases.All())
		is(t, "ended", s.Do(stat("a")).Err, api.ErrClosed)
		is(t, "the leases stay", maps.Equal(maps.Collect(s.Leases.All()), ended), true)
		if t.Failed() {
			t.FailNow()
		}
	}
}
