package broker_test

import (
	"cmp"
	"maps"
	"slices"
	"strings"
	"testing"

	"taproot/api"
	"taproot/broker"
	"taproot/command"
	"taproot/registry"
)

// letter is a message, and whether it is lent.
type letter struct {
	api.Message
	lent  bool
	until uint64
}

// model is what the words say, in plain lists; queues and bindings are layer 21's.
type model struct {
	w           *registry.Shelf
	letters     []*letter
	clock, last uint64
}

func (x *model) sort() {
	slices.SortFunc(x.letters, func(a, b *letter) int {
		return cmp.Or(strings.Compare(a.Queue, b.Queue), cmp.Compare(a.ID, b.ID))
	})
}

// in are the letters of a queue, by their numbers.
func (x *model) in(queue string) []*letter {
	x.sort()
	return slices.DeleteFunc(slices.Clone(x.letters), func(l *letter) bool { return l.Queue != queue })
}

func (x *model) remove(l *letter) {
	x.letters = slices.DeleteFunc(x.letters, func(o *letter) bool { return o == l })
}

func (x *model) queue(name string) (api.Queue, bool) {
	q, e := registry.Find(x.w, name)
	return q, e == api.OK
}

func (x *model) room(q api.Queue, r *broker.Reply) bool {
	l := x.in(q.Name)
	if q.Most == 0 || len(l) < int(q.Most) {
		return true
	}
	at := slices.IndexFunc(l, func(l *letter) bool { return !l.lent })
	if at < 0 {
		return false
	}
	r.Lost = append(r.Lost, l[at].ID)
	x.remove(l[at])
	return true
}

func (x *model) die(l *letter, r *broker.Reply) {
	own, _ := x.queue(l.Queue)
	l.lent = false
	q, there := x.queue(own.Dead)
	if own.Dead == "" || !there || !x.room(q, r) {
		r.Lost = append(r.Lost, l.ID)
		x.remove(l)
		return
	}
	r.Dead = append(r.Dead, l.ID)
	l.Queue, l.Tries, l.Expiry = q.Name, 0, 0
	if q.TTL != 0 {
		l.Expiry = x.clock + q.TTL
	}
}

func (x *model) publish(c command.Command) (r broker.Reply) {
	if c.Time > api.MaxTime {
		return wrong(api.ErrTime)
	}
	queues, e := registry.Route(x.w, c.Exchange, c.Key)
	if e != api.OK {
		return wrong(e)
	}
	for _, name := range queues {
		q, _ := x.queue(name)
		if !x.room(q, &r) {
			continue
		}
		x.last++
		m := api.Message{Queue: name, ID: x.last, Body: c.Body}
		switch {
		case c.Time != 0 && (q.TTL == 0 || c.Time < q.TTL):
			m.Expiry = x.clock + c.Time
		case q.TTL != 0:
			m.Expiry = x.clock + q.TTL
		}
		x.letters = append(x.letters, &letter{Message: m})
		r.N++
		r.IDs = append(r.IDs, x.last)
	}
	return r
}

func (x *model) deliver(c command.Command) (r broker.Reply) {
	q, there := x.queue(c.Queue.Name)
	switch {
	case !there:
		return wrong(api.ErrNone)
	case c.N == 0 || c.N > 32 || c.Time == 0 || c.Time > 1<<40:
		return wrong(api.ErrArg)
	}
	for _, l := range x.in(q.Name) {
		switch {
		case l.lent || len(r.List) == int(c.N):
		case q.Tries != 0 && l.Tries >= q.Tries:
			x.die(l, &r)
		default:
			l.Tries++
			l.lent, l.until = true, x.clock+c.Time
			r.List = append(r.List, l.Message)
		}
	}
	return r
}

// token is what Ack, Nack and Extend do.
func (x *model) token(c command.Command) (r broker.Reply) {
	l := x.in(c.Queue.Name)
	at := slices.IndexFunc(l, func(l *letter) bool { return l.ID == c.ID })
	switch {
	case at < 0:
		return wrong(api.ErrNone)
	case !l[at].lent || uint64(l[at].Tries) != c.Token:
		return wrong(api.ErrLease)
	case c.Kind == command.Ack:
		x.remove(l[at])
	case c.Kind == command.Nack && c.Dead:
		x.die(l[at], &r)
	case c.Kind == command.Nack:
		l[at].lent = false
	case c.Time == 0 || c.Time > 1<<40:
		return wrong(api.ErrArg)
	default:
		l[at].until = x.clock + c.Time
	}
	return r
}

func (x *model) purge(c command.Command) (r broker.Reply) {
	if _, there := x.queue(c.Queue.Name); !there {
		return wrong(api.ErrNone)
	}
	l := x.in(c.Queue.Name)
	for _, l := range l {
		x.remove(l)
	}
	if c.Kind == command.Drop {
		registry.Drop(x.w, c.Queue.Name)
	}
	return n(uint64(len(l)))
}

func (x *model) tick(c command.Command) (r broker.Reply) {
	if c.Time > 1<<40 || x.clock+c.Time > 1<<40 {
		return wrong(api.ErrTime)
	}
	x.clock += c.Time
	x.sort()
	var due []*letter
	for _, l := range x.letters {
		if l.lent && l.until <= x.clock {
			l.lent = false
			r.N++
		}
		if !l.lent && l.Expiry != 0 && l.Expiry <= x.clock {
			due = append(due, l)
		}
	}
	slices.SortStableFunc(due, func(a, b *letter) int { return cmp.Compare(a.Expiry, b.Expiry) })
	for _, l := range due {
		if slices.Contains(x.letters, l) {
			x.die(l, &r)
		}
	}
	return r
}

func (x *model) look(c command.Command) (r broker.Reply) {
	_, there := x.queue(c.Queue.Name)
	switch {
	case !there:
		return wrong(api.ErrNone)
	case c.Kind == command.Browse && (c.N == 0 || c.N > 32):
		return wrong(api.ErrArg)
	}
	for _, l := range x.in(c.Queue.Name) {
		switch {
		case c.Kind == command.Browse:
			if l.ID >= c.ID && len(r.List) < int(c.N) {
				r.List = append(r.List, l.Message)
			}
		default:
			r.N++
			if l.lent {
				r.IDs = append(r.IDs, l.ID)
			}
		}
	}
	return r
}

func (x *model) do(c command.Command) broker.Reply {
	_, e := command.Bytes(c)
	switch {
	case e != api.OK:
		return wrong(e)
	case c.Kind == command.Declare:
		return wrong(registry.Declare(x.w, c.Queue))
	case c.Kind == command.Bind:
		return wrong(registry.Bind(x.w, c.Binding))
	case c.Kind == command.Unbind:
		return wrong(registry.Unbind(x.w, c.Binding))
	case c.Kind == command.Publish:
		return x.publish(c)
	case c.Kind == command.Deliver:
		return x.deliver(c)
	case c.Kind == command.Drop || c.Kind == command.Purge:
		return x.purge(c)
	case c.Kind == command.Tick:
		return x.tick(c)
	case c.Kind == command.Stat || c.Kind == command.Browse:
		return x.look(c)
	}
	return x.token(c)
}

// holds wants a state to be just as the model.
func (x *model) holds(t *testing.T, what string, s *broker.State) {
	t.Helper()
	is(t, what+": the clock", s.Clock, x.clock)
	x.sort()
	pairs := all(t, x.w.Range("", ""))
	if x.last > 0 {
		pairs = append(pairs, counterPair(x.last))
	}
	var loans []loan
	for _, l := range x.letters {
		pairs = append(pairs, messagePairs(l.Message)...)
		if l.lent {
			loans = append(loans, of(l.Queue, l.ID, l.until))
		}
	}
	slices.SortStableFunc(loans, func(a, b loan) int { return cmp.Compare(a.until, b.until) })
	held(t, what+": the pairs", s.W, pairs...)
	lent(t, what, s, loans...)
}

// places are where each number is, wanted to be one alone.
func (x *model) places(t *testing.T) []uint64 {
	t.Helper()
	places := map[uint64]int{}
	for _, l := range x.letters {
		places[l.ID]++
		is(t, "one place", places[l.ID], 1)
	}
	return slices.Sorted(maps.Keys(places))
}
