package broker_test

import (
	"encoding/binary"
	"fmt"
	"iter"
	"maps"
	"slices"
	"strings"
	"testing"

	"taproot/api"
	"taproot/broker"
	"taproot/command"
	"taproot/disk"
	"taproot/lease"
	"taproot/registry"
	"taproot/store"
)

// brief is a thing as text, if that isn't long.
func brief(x any) string {
	s := fmt.Sprintf("%+v", x)
	return s[:min(len(s), 500)]
}

func is[T comparable](t *testing.T, what string, got, want T) {
	t.Helper()
	if got != want {
		t.Errorf("%s: %s, wanted %s", what, brief(got), brief(want))
	}
}

// alike wants two lists to have the same things.
func alike[T comparable](t *testing.T, what string, got, want []T) {
	t.Helper()
	if !slices.Equal(got, want) {
		t.Errorf("%s: %s, wanted %s", what, brief(got), brief(want))
	}
}

// says wants two replies to be alike, part by part.
func says(t *testing.T, what string, got, want broker.Reply) {
	t.Helper()
	is(t, what+": Err", got.Err, want.Err)
	is(t, what+": N", got.N, want.N)
	alike(t, what+": IDs", got.IDs, want.IDs)
	alike(t, what+": Lost", got.Lost, want.Lost)
	alike(t, what+": Dead", got.Dead, want.Dead)
	alike(t, what+": List", got.List, want.List)
}

// laid is a key laid by hand, of numbers (uint64) and texts.
func laid(parts ...any) string {
	var b []byte
	for _, p := range parts {
		switch p := p.(type) {
		case uint64:
			b = binary.BigEndian.AppendUint64(append(b, 1), p)
		case string:
			b = append(b, 2)
			b = append(b, strings.ReplaceAll(p, "\x00", "\x00\xff")...)
			b = append(b, 0, 0)
		}
	}
	return string(b)
}

// queuePair is a queue's.
func queuePair(q api.Queue) api.Pair {
	b := binary.BigEndian.AppendUint32([]byte{1}, q.Most)
	b = binary.BigEndian.AppendUint64(b, q.TTL)
	b = binary.BigEndian.AppendUint32(b, q.Tries)
	b = binary.BigEndian.AppendUint32(b, uint32(len(q.Dead)))
	return api.Pair{Key: laid("q", q.Name), Value: string(b) + q.Dead}
}

// bindPair is a binding's.
func bindPair(b api.Binding) api.Pair {
	return api.Pair{Key: laid("b", b.Exchange, uint64(b.Kind), b.Key, b.Queue)}
}

// counterPair is that of the messages' numbers.
func counterPair(n uint64) api.Pair {
	return api.Pair{Key: laid("c", "id"), Value: string(binary.BigEndian.AppendUint64([]byte{1}, n))}
}

// messagePairs are those of messages, and of their terms.
func messagePairs(l ...api.Message) []api.Pair {
	var pairs []api.Pair
	for _, m := range l {
		b := binary.BigEndian.AppendUint32([]byte{1}, m.Tries)
		b = binary.BigEndian.AppendUint64(b, m.Expiry)
		b = binary.BigEndian.AppendUint32(b, uint32(len(m.Body)))
		pairs = append(pairs, api.Pair{Key: laid("m", m.Queue, m.ID), Value: string(b) + m.Body})
		if m.Expiry != 0 {
			pairs = append(pairs, api.Pair{Key: laid("e", m.Expiry, m.Queue, m.ID)})
		}
	}
	return pairs
}

// all wants a row without an error, and answers what it gives.
func all[T any](t *testing.T, r iter.Seq2[T, api.Errno]) []T {
	t.Helper()
	var l []T
	for x, e := range r {
		is(t, "OK", e, api.OK)
		l = append(l, x)
	}
	return l
}

// held wants a reader to have just these pairs.
func held(t *testing.T, what string, r registry.Reader, want ...api.Pair) {
	t.Helper()
	m := map[string]api.Pair{}
	for _, p := range want {
		m[p.Key] = p
	}
	var l []api.Pair
	for _, key := range slices.Sorted(maps.Keys(m)) {
		l = append(l, m[key])
	}
	alike(t, what, all(t, r.Range("", "")), l)
}

// loan is what is lent, and till when.
type loan struct {
	lease.Key
	until uint64
}

// lent wants just these to be, in their order.
func lent(t *testing.T, what string, s *broker.State, want ...loan) {
	t.Helper()
	var got []loan
	for k, until := range s.Leases.All() {
		got = append(got, loan{k, until})
	}
	alike(t, what+": lent", got, want)
}

// of is a loan of a queue's message.
func of(queue string, id, until uint64) loan { return loan{lease.Key{Queue: queue, ID: id}, until} }

// The commands.

func declare(q api.Queue) command.Command {
	return command.Command{Kind: command.Declare, Queue: q}
}

func named(kind int, queue string) command.Command {
	return command.Command{Kind: kind, Queue: api.Queue{Name: queue}}
}

func drop(queue string) command.Command  { return named(command.Drop, queue) }
func purge(queue string) command.Command { return named(command.Purge, queue) }
func stat(queue string) command.Command  { return named(command.Stat, queue) }

func bind(kind int, exchange string, k int, key, queue string) command.Command {
	return command.Command{Kind: kind, Binding: api.Binding{Exchange: exchange, Kind: k, Key: key, Queue: queue}}
}

func publish(exchange, key, body string, term uint64) command.Command {
	return command.Command{Kind: command.Publish, Exchange: exchange, Key: key, Body: body, Time: term}
}

// to publishes to a queue, without a term.
func to(queue, body string) command.Command { return publish("", queue, body, 0) }

func deliver(queue string, n, time uint64) command.Command {
	c := named(command.Deliver, queue)
	c.N, c.Time = n, time
	return c
}

func token(kind int, queue string, id, token uint64) command.Command {
	c := named(kind, queue)
	c.ID, c.Token = id, token
	return c
}

func ack(queue string, id, tries uint64) command.Command {
	return token(command.Ack, queue, id, tries)
}

func nack(queue string, id, tries uint64, dead bool) command.Command {
	c := token(command.Nack, queue, id, tries)
	c.Dead = dead
	return c
}

func extend(queue string, id, tries, time uint64) command.Command {
	c := token(command.Extend, queue, id, tries)
	c.Time = time
	return c
}

func tick(time uint64) command.Command { return command.Command{Kind: command.Tick, Time: time} }

func browse(queue string, from, n uint64) command.Command {
	c := named(command.Browse, queue)
	c.ID, c.N = from, n
	return c
}

// step is a command, and what comes of it.
type step struct {
	c    command.Command
	want broker.Reply
}

// ids is a reply that tells how many numbers there are, and which.
func ids(l ...uint64) broker.Reply { return broker.Reply{N: uint64(len(l)), IDs: l} }

// n is one that tells a number alone.
func n(n uint64) broker.Reply { return broker.Reply{N: n} }

// wrong is one that tells an error.
func wrong(e api.Errno) broker.Reply { return broker.Reply{Err: e} }

// list is one that tells messages.
func list(l ...api.Message) broker.Reply { return broker.Reply{List: l} }

// fresh is a state in which there is nothing.
func fresh(l ...api.Pair) *broker.State {
	return &broker.State{W: registry.New(l...), Leases: lease.Keys()}
}

// run does commands, and wants what comes of them.
func run(t *testing.T, s *broker.State, l ...step) {
	t.Helper()
	for i, x := range l {
		says(t, string(rune('a'+i))+", "+kind(x.c.Kind), s.Do(x.c), x.want)
	}
}

// kind is a kind's name.
func kind(kind int) string {
	for k, name := range command.Kinds() {
		if k == kind {
			return name
		}
	}
	return "none"
}

// done does commands that are OK, whatever they tell.
func done(t *testing.T, s *broker.State, l ...command.Command) {
	t.Helper()
	for _, c := range l {
		is(t, "done: "+kind(c.Kind), s.Do(c).Err, api.OK)
	}
}

// states are one on a shelf, and one on a transaction, without a thing.
func states(t *testing.T, pages int) map[string]*broker.State {
	t.Helper()
	x, e := newStore(t, pages).Begin()
	is(t, "a transaction", e, api.OK)
	return map[string]*broker.State{"a shelf": fresh(), "a transaction": {W: x, Leases: lease.Keys()}}
}

// newStore is one on a disk of so many pages.
func newStore(t *testing.T, pages int) *store.Store {
	t.Helper()
	d, e := disk.New(pages)
	is(t, "a disk", e, api.OK)
	s, e := store.Open(d)
	is(t, "a store", e, api.OK)
	return s
}
