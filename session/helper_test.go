package session_test

import (
	"encoding/binary"
	"fmt"
	"iter"
	"slices"
	"testing"

	"taproot/api"
	"taproot/broker"
	"taproot/check"
	"taproot/command"
	"taproot/disk"
	"taproot/lease"
	"taproot/registry"
	"taproot/session"
	"taproot/txn"
)

// brief is a thing as text, if that isn't long.
func brief(x any) string {
	s := fmt.Sprintf("%+v", x)
	return s[:min(len(s), 500)]
}

func is[T comparable](t *testing.T, what string, got, want T) {
	t.Helper()
	if got != want {
		t.Errorf("%s: %s, wanted %s", what, brief(got), brief(want))
	}
}

// alike wants two lists to have the same things.
func alike[T comparable](t *testing.T, what string, got, want []T) {
	t.Helper()
	if !slices.Equal(got, want) {
		t.Errorf("%s: %s, wanted %s", what, brief(got), brief(want))
	}
}

// says wants replies to be those, part by part.
func says(t *testing.T, what string, got, want []broker.Reply) {
	t.Helper()
	is(t, what+": replies", len(got), len(want))
	for i := range min(len(got), len(want)) {
		is(t, what+": Err", got[i].Err, want[i].Err)
		is(t, what+": N", got[i].N, want[i].N)
		alike(t, what+": IDs", got[i].IDs, want[i].IDs)
		alike(t, what+": Lost", got[i].Lost, want[i].Lost)
		alike(t, what+": Dead", got[i].Dead, want[i].Dead)
		alike(t, what+": List", got[i].List, want[i].List)
	}
}

// all wants a row without an error, and answers what it gives.
func all[T any](t *testing.T, r iter.Seq2[T, api.Errno]) []T {
	t.Helper()
	var l []T
	for x, e := range r {
		is(t, "a row", e, api.OK)
		l = append(l, x)
	}
	return l
}

// newDisk is one of so many pages.
func newDisk(t *testing.T, pages int) *disk.Disk {
	t.Helper()
	d, e := disk.New(pages)
	is(t, "a disk", e, api.OK)
	return d
}

// opened is a broker on a disk.
func opened(t *testing.T, d *disk.Disk) *session.Broker {
	t.Helper()
	b, e := session.Open(d)
	is(t, "Open", e, api.OK)
	is(t, "Open: lent", b.Leases().Len(), 0)
	return b
}

// fresh is a disk, and a broker on it that has done a batch.
func fresh(t *testing.T, pages int, l ...command.Command) (*disk.Disk, *session.Broker) {
	t.Helper()
	d := newDisk(t, pages)
	b := opened(t, d)
	if len(l) > 0 {
		did(t, b, l...)
	}
	return d, b
}

// did wants a batch to be committed, and answers its replies.
func did(t *testing.T, b *session.Broker, l ...command.Command) []broker.Reply {
	t.Helper()
	replies, e := b.Batch(l)
	is(t, "a batch", e, api.OK)
	is(t, "its replies", len(replies), len(l))
	return replies
}

// loan is what is lent, and till when.
type loan struct {
	lease.Key
	until uint64
}

// lent are a table's.
func lent(x lease.Table[lease.Key]) []loan {
	var l []loan
	for k, until := range x.All() {
		l = append(l, loan{k, until})
	}
	return l
}

// of is a loan of a queue's message.
func of(queue string, id, until uint64) loan { return loan{lease.Key{Queue: queue, ID: id}, until} }

// picture is all that a broker shows.
type picture struct {
	pairs  []api.Pair
	loans  []loan
	clock  uint64
	tx     uint64
	snaps  []int
	oldest uint64
}

// shown is a broker's.
func shown(t *testing.T, b *session.Broker) picture {
	t.Helper()
	return picture{
		pairs:  all(t, b.Now().Range("", "")),
		loans:  lent(b.Leases()),
		clock:  b.Clock(),
		tx:     b.Now().Tx(),
		snaps:  b.Store().Snaps(),
		oldest: b.Store().Oldest(),
	}
}

// same wants a broker to show what it did, with nothing open.
func same(t *testing.T, what string, b *session.Broker, want picture) {
	t.Helper()
	got := shown(t, b)
	alike(t, what+": the pairs", got.pairs, want.pairs)
	alike(t, what+": lent", got.loans, want.loans)
	is(t, what+": the clock", got.clock, want.clock)
	is(t, what+": the number", got.tx, want.tx)
	alike(t, what+": the snapshots", got.snaps, want.snaps)
	is(t, what+": the oldest", got.oldest, want.oldest)
	lasting(t, what, b)
}

// lasting wants the disk to have what the broker shows, each page just one thing, and nothing to be open.
func lasting(t *testing.T, what string, b *session.Broker) {
	t.Helper()
	is(t, what+": nothing is open", b.Store().Abort(), api.ErrNone)
	base, e := txn.Load(b.Store().Pager())
	is(t, what+": Load", e, api.OK)
	is(t, what+": the root", base.Root, b.Store().Base().Root)
	is(t, what+": the root's clock", base.Root.Clock, b.Clock())
	r, e := check.Of(b.Store().Pager(), base)
	is(t, what+": check", e, api.OK)
	is(t, what+": nothing is lost, nothing twice", r.Whole(), true)
}

// abstract is a broker whose pairs are in memory.
type abstract struct {
	shelf  *registry.Shelf
	leases lease.Table[lease.Key]
	clock  uint64
}

func memory() abstract { return abstract{shelf: registry.New(), leases: lease.Keys()} }

// copied is another one, which may be changed for itself.
func (a abstract) copied(t *testing.T) abstract {
	t.Helper()
	a.shelf = registry.New(all(t, a.shelf.Range("", ""))...)
	return a
}

// batch is what commands come to, and the broker behind them: as it was, if one has an error.
func (a abstract) batch(t *testing.T, l []command.Command) (abstract, []broker.Reply, api.Errno) {
	t.Helper()
	s := broker.State{W: a.copied(t).shelf, Leases: a.leases, Clock: a.clock}
	var replies []broker.Reply
	for i, c := range l {
		r := s.Do(c)
		if r.Err != api.OK {
			return a, aborted(len(l), i, r.Err), r.Err
		}
		replies = append(replies, r)
	}
	return abstract{s.W.(*registry.Shelf), s.Leases, s.Clock}, replies, api.OK
}

// holds wants a broker to show just that.
func (a abstract) holds(t *testing.T, what string, b *session.Broker) {
	t.Helper()
	alike(t, what+": the pairs", all(t, b.Now().Range("", "")), all(t, a.shelf.Range("", "")))
	alike(t, what+": lent", lent(b.Leases()), lent(a.leases))
	is(t, what+": the clock", b.Clock(), a.clock)
	lasting(t, what, b)
}

// aborted are so many replies, one of which tells an error.
func aborted(n, at int, e api.Errno) []broker.Reply {
	l := each(n, api.ErrAborted)
	l[at].Err = e
	return l
}

// each are so many replies that tell an error.
func each(n int, e api.Errno) []broker.Reply {
	return slices.Repeat([]broker.Reply{{Err: e}}, n)
}

// The commands.

func declare(name string) command.Command {
	return command.Command{Kind: command.Declare, Queue: api.Queue{Name: name}}
}

func declared(q api.Queue) command.Command {
	return command.Command{Kind: command.Declare, Queue: q}
}

func named(kind int, queue string) command.Command {
	return command.Command{Kind: kind, Queue: api.Queue{Name: queue}}
}

func drop(queue string) command.Command  { return named(command.Drop, queue) }
func purge(queue string) command.Command { return named(command.Purge, queue) }
func stat(queue string) command.Command  { return named(command.Stat, queue) }

// bound leads an exchange's key to a queue.
func bound(exchange, key, queue string) command.Command {
	return command.Command{Kind: command.Bind, Binding: api.Binding{Exchange: exchange, Kind: api.Direct, Key: key, Queue: queue}}
}

// to publishes to a queue.
func to(queue, body string) command.Command {
	return command.Command{Kind: command.Publish, Key: queue, Body: body}
}

func deliver(queue string, n, time uint64) command.Command {
	c := named(command.Deliver, queue)
	c.N, c.Time = n, time
	return c
}

func token(kind int, queue string, id, token uint64) command.Command {
	c := named(kind, queue)
	c.ID, c.Token = id, token
	return c
}

func ack(queue string, id, tries uint64) command.Command {
	return token(command.Ack, queue, id, tries)
}

func nack(queue string, id, tries uint64) command.Command {
	return token(command.Nack, queue, id, tries)
}

func extend(queue string, id, tries, time uint64) command.Command {
	c := token(command.Extend, queue, id, tries)
	c.Time = time
	return c
}

func tick(time uint64) command.Command { return command.Command{Kind: command.Tick, Time: time} }

func browse(queue string, from, n uint64) command.Command {
	c := named(command.Browse, queue)
	c.ID, c.N = from, n
	return c
}

// ids is a reply that tells how many numbers there are, and which.
func ids(l ...uint64) broker.Reply { return broker.Reply{N: uint64(len(l)), IDs: l} }

// list is one that tells messages.
func list(l ...api.Message) broker.Reply { return broker.Reply{List: l} }

// letter is a message without a term.
func letter(queue string, id uint64, tries uint32, body string) api.Message {
	return api.Message{Queue: queue, ID: id, Tries: tries, Body: body}
}

// laid are commands' bytes, laid by hand: how many, and the commands one behind the other.
func laid(l ...string) string {
	b := binary.BigEndian.AppendUint32(nil, uint32(len(l)))
	for _, s := range l {
		b = append(b, s...)
	}
	return string(b)
}
