package broker_test

import (
	"math"
	"strings"
	"testing"

	"taproot/api"
	"taproot/broker"
	"taproot/command"
)

// mail is a message of a queue, without an Expiry.
func mail(queue string, id uint64, tries uint32, body string) api.Message {
	return api.Message{Queue: queue, ID: id, Tries: tries, Body: body}
}

var ok = broker.Reply{}

func TestExample(t *testing.T) {
	s := fresh()
	run(t, s,
		step{declare(api.Queue{Name: "a"}), ok},
		step{to("a", "hi"), ids(1)},
		step{deliver("a", 1, 5), list(mail("a", 1, 1, "hi"))},
		step{ack("a", 1, 1), ok},
		step{ack("a", 1, 1), wrong(api.ErrNone)},
	)
	held(t, "what is left", s.W, queuePair(api.Queue{Name: "a"}), counterPair(1))
	lent(t, "nothing", s)
}

func TestDeclareBindUnbind(t *testing.T) {
	s := fresh()
	a := api.Queue{Name: "a", Most: 3, TTL: api.MaxTime, Tries: math.MaxUint32}
	run(t, s,
		step{declare(api.Queue{Name: "a b"}), wrong(api.ErrName)},
		step{declare(api.Queue{Name: "a", Dead: "a"}), wrong(api.ErrArg)},
		step{declare(api.Queue{Name: "a", TTL: api.MaxTime + 1}), wrong(api.ErrTime)},
		step{declare(api.Queue{Name: "a", Dead: "b"}), wrong(api.ErrNone)},
		step{declare(a), ok},
		step{declare(api.Queue{Name: "a"}), wrong(api.ErrThere)},
		step{bind(command.Bind, "x", api.Topic, "k.#", "a"), ok},
		step{bind(command.Bind, "x", api.Topic, "k.#", "a"), wrong(api.ErrThere)},
		step{bind(command.Bind, "x", api.Direct, "k", "a"), wrong(api.ErrKind)},
		step{bind(command.Bind, "y", 4, "k", "a"), wrong(api.ErrKind)},
		step{bind(command.Bind, "y", api.Fanout, "k", "a"), wrong(api.ErrPattern)},
		step{bind(command.Bind, "y", api.Fanout, "", "b"), wrong(api.ErrNone)},
		step{bind(command.Bind, "", api.Fanout, "", "a"), wrong(api.ErrName)},
	)
	held(t, "there", s.W, queuePair(a), bindPair(api.Binding{Exchange: "x", Kind: api.Topic, Key: "k.#", Queue: "a"}))
	run(t, s,
		step{bind(command.Unbind, "x", api.Topic, "k.*", "a"), wrong(api.ErrNone)},
		step{bind(command.Unbind, "x", api.Topic, "k.#", "a"), ok},
		step{bind(command.Unbind, "x", api.Topic, "k.#", "a"), wrong(api.ErrNone)},
	)
	held(t, "without the binding", s.W, queuePair(a))
}

// Layer 24's errors are ahead of all that stands in the broker.
func TestCommandsThatArentRight(t *testing.T) {
	long := strings.Repeat("n", api.MaxName+1)
	more := deliver("a", 1, 1)
	more.ID = 1
	for _, x := range []struct {
		c command.Command
		e api.Errno
	}{
		{command.Command{}, api.ErrKind}, {command.Command{Kind: 14}, api.ErrKind}, {command.Command{Kind: -1}, api.ErrKind},
		{more, api.ErrForm}, {deliver(long, 0, 0), api.ErrLong}, {declare(api.Queue{Name: long}), api.ErrLong},
		{to("none", strings.Repeat("b", api.MaxBody+1)), api.ErrLong}, {publish("", strings.Repeat("k", 513), "", math.MaxUint64), api.ErrLong},
		{bind(command.Bind, "x", 256, "", "a"), api.ErrForm}, {bind(command.Bind, "x", -1, "", "a"), api.ErrForm},
	} {
		s := fresh()
		done(t, s, declare(api.Queue{Name: "a"}), to("a", "hi"))
		says(t, "not right", s.Do(x.c), wrong(x.e))
		held(t, "nothing is changed", s.W, append(messagePairs(mail("a", 1, 0, "hi")), queuePair(api.Queue{Name: "a"}), counterPair(1))...)
		lent(t, "nothing is lent", s)
	}
}

func TestDropAndPurge(t *testing.T) {
	for _, c := range []command.Command{drop("b"), purge("b")} {
		s := fresh()
		run(t, s, step{c, wrong(api.ErrNone)})
		a, b, d := api.Queue{Name: "a"}, api.Queue{Name: "b", TTL: 9}, api.Queue{Name: "bb"}
		run(t, s, step{declare(a), ok}, step{declare(b), ok}, step{declare(d), ok}, step{c, ok})
		if c.Kind == command.Drop {
			done(t, s, declare(b))
		}
		done(t, s, bind(command.Bind, "x", api.Fanout, "", "a"), bind(command.Bind, "x", api.Fanout, "", "b"), bind(command.Bind, "x", api.Fanout, "", "bb"))
		run(t, s, step{publish("x", "k", "hi", 0), ids(1, 2, 3)}, step{publish("x", "k", "ho", 5), ids(4, 5, 6)})
		done(t, s, deliver("b", 1, 7), deliver("a", 1, 7), deliver("bb", 1, 8))
		run(t, s, step{c, n(2)})
		l := append(messagePairs(mail("a", 1, 1, "hi"), api.Message{Queue: "a", ID: 4, Expiry: 5, Body: "ho"}, mail("bb", 3, 1, "hi"), api.Message{Queue: "bb", ID: 6, Expiry: 5, Body: "ho"}),
			queuePair(a), queuePair(d), bindPair(api.Binding{Exchange: "x", Kind: api.Fanout, Queue: "a"}), bindPair(api.Binding{Exchange: "x", Kind: api.Fanout, Queue: "bb"}), counterPair(6))
		if c.Kind == command.Purge {
			l = append(l, queuePair(b), bindPair(api.Binding{Exchange: "x", Kind: api.Fanout, Queue: "b"}))
		}
		held(t, "the others", s.W, l...)
		lent(t, "the others", s, of("a", 1, 7), of("bb", 3, 8))
		if c.Kind == command.Drop {
			run(t, s, step{c, wrong(api.ErrNone)}, step{declare(b), ok})
		}
		run(t, s, step{to("b", "again"), ids(7)}, step{ack("b", 2, 1), wrong(api.ErrNone)}, step{stat("b"), broker.Reply{N: 1}})
	}
}

func TestPublish(t *testing.T) {
	s := fresh()
	done(t, s, declare(api.Queue{Name: "a"}), declare(api.Queue{Name: "b"}), declare(api.Queue{Name: "c"}))
	for _, b := range []command.Command{
		bind(command.Bind, "t", api.Topic, "k.*", "c"), bind(command.Bind, "t", api.Topic, "#", "a"), bind(command.Bind, "t", api.Topic, "k.#", "c"),
		bind(command.Bind, "d", api.Direct, "k", "b"), bind(command.Bind, "f", api.Fanout, "", "b"), bind(command.Bind, "f", api.Fanout, "", "a"),
	} {
		done(t, s, b)
	}
	run(t, s,
		step{publish("t", "k.l", "1", 0), ids(1, 2)}, // into a, then into c, though two bindings lead there
		step{publish("t", "l", "2", 0), ids(3)},
		step{publish("d", "k", "3", 0), ids(4)},
		step{publish("d", "l", "4", 0), ok}, // into none
		step{publish("f", "l", "5", 0), ids(5, 6)},
		step{to("c", strings.Repeat("b", api.MaxBody)), ids(7)},
		step{publish("none", "k", "", 0), wrong(api.ErrNone)},
		step{publish("no.name", "k", "", 0), wrong(api.ErrName)},
		step{publish("t", "k..l", "", 0), wrong(api.ErrForm)},
		step{to("none", ""), wrong(api.ErrNone)},
		step{to("", ""), wrong(api.ErrNone)},
		step{to("c", ""), ids(8)},
		step{browse("a", 0, 32), list(mail("a", 1, 0, "1"), mail("a", 3, 0, "2"), mail("a", 5, 0, "5"))},
		step{browse("b", 0, 32), list(mail("b", 4, 0, "3"), mail("b", 6, 0, "5"))},
		step{browse("c", 0, 32), list(mail("c", 2, 0, "1"), mail("c", 7, 0, strings.Repeat("b", api.MaxBody)), mail("c", 8, 0, ""))},
	)
	lent(t, "nothing", s)
}

// The term of a message is the lesser one of its own and its queue's, of those that there are.
func TestTerms(t *testing.T) {
	for _, x := range []struct{ clock, term, ttl, want uint64 }{
		{0, 0, 0, 0}, {9, 0, 0, 0}, {0, 1, 0, 1}, {0, 0, 1, 1}, {9, 5, 0, 14}, {9, 0, 5, 14}, {9, 5, 6, 14}, {9, 6, 5, 14}, {9, 5, 5, 14},
		{api.MaxTime, api.MaxTime, api.MaxTime, 2 * api.MaxTime}, {1, api.MaxTime, 0, api.MaxTime + 1},
		{math.MaxUint64 - 4, 5, 0, math.MaxUint64}, {math.MaxUint64 - 5, 5, 0, math.MaxUint64}, {math.MaxUint64, 0, 1, math.MaxUint64},
	} {
		s := fresh()
		s.Clock = x.clock
		q := api.Queue{Name: "a", TTL: x.ttl}
		run(t, s, step{declare(q), ok}, step{publish("", "a", "hi", x.term), ids(1)})
		held(t, "the term", s.W, append(messagePairs(api.Message{Queue: "a", ID: 1, Expiry: x.want, Body: "hi"}), queuePair(q), counterPair(1))...)
	}
	s := fresh()
	run(t, s,
		step{publish("none", "k", "", api.MaxTime+1), wrong(api.ErrTime)},
		step{publish("none", "k", "", math.MaxUint64), wrong(api.ErrTime)},
		step{publish("none", "k", "", api.MaxTime), wrong(api.ErrNone)},
	)
	held(t, "nothing", s.W)
}

// In a full queue the first ready message makes room; a number is taken only where a message comes.
func TestRoom(t *testing.T) {
	s := fresh()
	lost := func(id, gone uint64) broker.Reply {
		return broker.Reply{N: 1, IDs: []uint64{id}, Lost: []uint64{gone}}
	}
	run(t, s,
		step{declare(api.Queue{Name: "a", Most: 2}), ok}, step{declare(api.Queue{Name: "b", Most: 1}), ok}, step{declare(api.Queue{Name: "c"}), ok},
		step{bind(command.Bind, "f", api.Fanout, "", "a"), ok}, step{bind(command.Bind, "f", api.Fanout, "", "b"), ok}, step{bind(command.Bind, "f", api.Fanout, "", "c"), ok},
		step{to("a", "1"), ids(1)}, step{to("a", "2"), ids(2)}, step{to("a", "3"), lost(3, 1)},
		step{deliver("a", 1, 5), list(mail("a", 2, 1, "2"))},
		step{to("a", "4"), lost(4, 3)}, // 2 is lent
		step{deliver("a", 1, 5), list(mail("a", 4, 1, "4"))},
		step{to("a", "none"), ok},
		step{publish("f", "k", "5", 0), ids(5, 6)}, // none into a
		step{publish("f", "k", "6", 0), broker.Reply{N: 2, IDs: []uint64{7, 8}, Lost: []uint64{5}}},
		step{nack("a", 4, 1, false), ok},
		step{publish("f", "k", "7", 0), broker.Reply{N: 3, IDs: []uint64{9, 10, 11}, Lost: []uint64{4, 7}}},
		step{stat("a"), broker.Reply{N: 2, IDs: []uint64{2}}}, step{stat("b"), n(1)}, step{stat("c"), n(3)},
		step{deliver("b", 1, 5), list(mail("b", 10, 1, "7"))},
		step{ack("b", 10, 1), ok}, step{to("b", "again"), ids(12)},
	)
}

// One message makes room, however many there are too many.
func TestRoomOfWhatHasMore(t *testing.T) {
	q := api.Queue{Name: "a", Most: 1}
	l := append(messagePairs(mail("a", 5, 0, ""), mail("a", 6, 0, ""), mail("a", 7, 0, "")), queuePair(q), counterPair(7))
	s := fresh(l...)
	s.Leases = s.Leases.Lend(of("a", 5, 9).Key, 9)
	run(t, s, step{to("a", "new"), broker.Reply{N: 1, IDs: []uint64{8}, Lost: []uint64{6}}})
}

func TestDeliver(t *testing.T) {
	s := fresh()
	run(t, s,
		step{deliver("a", 0, 0), wrong(api.ErrNone)},
		step{declare(api.Queue{Name: "a"}), ok},
		step{deliver("a", 0, 1), wrong(api.ErrArg)}, step{deliver("a", 33, 1), wrong(api.ErrArg)}, step{deliver("a", math.MaxUint64, 1), wrong(api.ErrArg)},
		step{deliver("a", 1, 0), wrong(api.ErrArg)}, step{deliver("a", 1, api.MaxTime+1), wrong(api.ErrArg)}, step{deliver("a", 1, math.MaxUint64), wrong(api.ErrArg)},
		step{deliver("a", 32, api.MaxTime), ok}, step{deliver("a", 1, 1), ok},
		step{tick(3), ok},
	)
	for id := range uint64(40) {
		run(t, s, step{to("a", "hi"), ids(id + 1)})
	}
	run(t, s,
		step{deliver("a", 2, 9), list(mail("a", 1, 1, "hi"), mail("a", 2, 1, "hi"))},
		step{deliver("a", 1, 5), list(mail("a", 3, 1, "hi"))},
		step{nack("a", 2, 1, false), ok},
		step{deliver("a", 2, 7), list(mail("a", 2, 2, "hi"), mail("a", 4, 1, "hi"))},
	)
	lent(t, "those", s, of("a", 3, 8), of("a", 2, 10), of("a", 4, 10), of("a", 1, 12))
	r := s.Do(deliver("a", 32, 1))
	is(t, "at most", len(r.List), 32)
	is(t, "from", r.List[0].ID, 5)
	r = s.Do(deliver("a", 32, 1))
	is(t, "those that are left", len(r.List), 4)
	run(t, s, step{deliver("a", 32, 1), ok})
}

// A message that was delivered too often dies as it is come to, and the next one is delivered instead.
func TestTries(t *testing.T) {
	for _, dead := range []string{"", "b"} {
		s := fresh()
		died := func(r broker.Reply, l ...uint64) broker.Reply {
			if dead == "" {
				r.Lost = l
			} else {
				r.Dead = l
			}
			return r
		}
		run(t, s,
			step{declare(api.Queue{Name: "b", TTL: 6}), ok}, step{declare(api.Queue{Name: "a", Tries: 2, Dead: dead}), ok},
			step{to("a", "1"), ids(1)}, step{to("a", "2"), ids(2)}, step{to("a", "3"), ids(3)},
			step{deliver("a", 2, 5), list(mail("a", 1, 1, "1"), mail("a", 2, 1, "2"))},
			step{nack("a", 1, 1, false), ok}, step{nack("a", 2, 1, false), ok},
			step{deliver("a", 2, 5), list(mail("a", 1, 2, "1"), mail("a", 2, 2, "2"))},
			step{nack("a", 1, 2, false), ok}, step{nack("a", 2, 2, false), ok},
			step{tick(1), ok},
			step{deliver("a", 1, 5), died(list(mail("a", 3, 1, "3")), 1, 2)},
			step{deliver("a", 1, 5), ok},
			step{nack("a", 3, 1, false), ok}, step{deliver("a", 1, 5), list(mail("a", 3, 2, "3"))}, step{nack("a", 3, 2, false), ok},
			step{deliver("a", 1, 5), died(broker.Reply{}, 3)},
			step{stat("a"), ok},
		)
		want := broker.Reply{}
		if dead == "b" {
			want = list(api.Message{Queue: "b", ID: 1, Expiry: 7, Body: "1"}, api.Message{Queue: "b", ID: 2, Expiry: 7, Body: "2"}, api.Message{Queue: "b", ID: 3, Expiry: 7, Body: "3"})
		}
		run(t, s, step{browse("b", 0, 32), want})
	}
}

// What was delivered as often as numbers go isn't told to be new.
func TestTriesDontGoRound(t *testing.T) {
	for tries, want := range map[uint32]uint32{math.MaxUint32 - 1: math.MaxUint32, math.MaxUint32: math.MaxUint32} {
		s := fresh(append(messagePairs(mail("a", math.MaxUint64, tries, "")), queuePair(api.Queue{Name: "a"}))...)
		run(t, s,
			step{deliver("a", 2, 5), list(mail("a", math.MaxUint64, want, ""))},
			step{ack("a", math.MaxUint64, uint64(want)+1<<32), wrong(api.ErrLease)},
			step{ack("a", math.MaxUint64, uint64(want)), ok},
		)
	}
	s := fresh(append(messagePairs(mail("a", 1, math.MaxUint32, "")), queuePair(api.Queue{Name: "a", Tries: math.MaxUint32}))...)
	run(t, s, step{deliver("a", 2, 5), broker.Reply{Lost: []uint64{1}}})
}

func TestToken(t *testing.T) {
	for _, kind := range []func(queue string, id, token uint64) command.Command{
		ack, func(queue string, id, token uint64) command.Command { return nack(queue, id, token, false) },
		func(queue string, id, token uint64) command.Command { return nack(queue, id, token, true) },
		func(queue string, id, token uint64) command.Command { return extend(queue, id, token, 9) },
		func(queue string, id, token uint64) command.Command { return extend(queue, id, token, 0) },
	} {
		s := fresh()
		done(t, s, declare(api.Queue{Name: "a"}), declare(api.Queue{Name: "b"}), to("a", "1"), to("a", "2"), to("b", "3"), deliver("a", 1, 5))
		was := all(t, s.W.Range("", ""))
		for _, x := range []struct {
			queue     string
			id, token uint64
			want      api.Errno
		}{
			{"a", 0, 1, api.ErrNone}, {"a", 3, 1, api.ErrNone}, {"b", 1, 1, api.ErrNone}, {"none", 1, 1, api.ErrNone}, {"", 1, 1, api.ErrNone},
			{"a", 2, 0, api.ErrLease}, {"a", 2, 1, api.ErrLease}, {"b", 3, 0, api.ErrLease},
			{"a", 1, 0, api.ErrLease}, {"a", 1, 2, api.ErrLease}, {"a", 1, 1 + 1<<32, api.ErrLease}, {"a", 1, math.MaxUint64, api.ErrLease},
		} {
			says(t, "refused", s.Do(kind(x.queue, x.id, x.token)), wrong(x.want))
		}
		held(t, "nothing is changed", s.W, was...)
		lent(t, "nothing is changed", s, of("a", 1, 5))
	}
}

func TestAckNackExtend(t *testing.T) {
	s := fresh()
	run(t, s,
		step{declare(api.Queue{Name: "a"}), ok}, step{publish("", "a", "1", 30), ids(1)}, step{to("a", "2"), ids(2)}, step{to("a", "3"), ids(3)},
		step{tick(4), ok}, step{deliver("a", 3, 5), list(api.Message{Queue: "a", ID: 1, Tries: 1, Expiry: 30, Body: "1"}, mail("a", 2, 1, "2"), mail("a", 3, 1, "3"))},
		step{extend("a", 2, 1, 0), wrong(api.ErrArg)}, step{extend("a", 2, 1, api.MaxTime+1), wrong(api.ErrArg)}, step{extend("a", 2, 1, math.MaxUint64), wrong(api.ErrArg)},
		step{extend("a", 2, 1, api.MaxTime), ok},
		step{extend("a", 3, 1, 1), ok}, // shorter
	)
	lent(t, "till then", s, of("a", 3, 5), of("a", 1, 9), of("a", 2, api.MaxTime+4))
	run(t, s, step{nack("a", 2, 1, false), ok}, step{nack("a", 2, 1, false), wrong(api.ErrLease)}, step{ack("a", 1, 1), ok})
	lent(t, "without them", s, of("a", 3, 5))
	held(t, "what is left", s.W, append(messagePairs(mail("a", 2, 1, "2"), mail("a", 3, 1, "3")), queuePair(api.Queue{Name: "a"}), counterPair(3))...)
	run(t, s, step{deliver("a", 2, 5), list(mail("a", 2, 2, "2"))}, step{ack("a", 2, 1), wrong(api.ErrLease)}, step{ack("a", 2, 2), ok})
}

// A message that dies goes to a queue of dead letters, where there is one with room.
func TestDying(t *testing.T) {
	dies := []command.Command{declare(api.Queue{Name: "a", Dead: "b"}), publish("", "a", "hi", 50), deliver("a", 1, 99), nack("a", 1, 1, true)}
	kept := broker.Reply{Dead: []uint64{1}}
	gone := broker.Reply{Lost: []uint64{1}}
	for _, x := range []struct {
		what string
		l    []command.Command // ahead of the Nack
		want broker.Reply
		b    []api.Message
	}{
		{"there", nil, kept, []api.Message{mail("b", 1, 0, "hi")}},
		{"there, and time went on", []command.Command{tick(20)}, kept, []api.Message{mail("b", 1, 0, "hi")}},
		{"another one of that name, with a term", []command.Command{drop("b"), tick(20), declare(api.Queue{Name: "b", TTL: 7})}, kept, []api.Message{{Queue: "b", ID: 1, Expiry: 27, Body: "hi"}}},
		{"another one that leads back", []command.Command{drop("b"), declare(api.Queue{Name: "b", Dead: "a"})}, kept, []api.Message{mail("b", 1, 0, "hi")}},
		{"it isn't there any more", []command.Command{drop("b")}, gone, nil},
		{"nothing is lost while it isn't full", []command.Command{drop("b"), declare(api.Queue{Name: "b", Most: 2}), to("b", "2")}, kept, []api.Message{mail("b", 1, 0, "hi"), mail("b", 2, 0, "2")}},
		{"it is full of ready ones", []command.Command{drop("b"), declare(api.Queue{Name: "b", Most: 1}), to("b", "2")}, broker.Reply{Dead: []uint64{1}, Lost: []uint64{2}}, []api.Message{mail("b", 1, 0, "hi")}},
		{"it is full of lent ones", []command.Command{drop("b"), declare(api.Queue{Name: "b", Most: 1}), to("b", "2"), deliver("b", 1, 9)}, gone, []api.Message{mail("b", 2, 1, "2")}},
	} {
		s := fresh()
		done(t, s, declare(api.Queue{Name: "b"}))
		done(t, s, dies[:3]...)
		done(t, s, x.l...)
		was, _ := s.Leases.Until(of("b", 2, 0).Key)
		says(t, x.what, s.Do(dies[3]), x.want)
		says(t, x.what, s.Do(browse("b", 0, 32)), map[bool]broker.Reply{true: list(x.b...), false: wrong(api.ErrNone)}[len(x.b) > 0])
		says(t, x.what, s.Do(stat("a")), ok)
		for id := range uint64(2) {
			_, there := s.Leases.Until(of("a", id, 0).Key)
			is(t, x.what+": lent", there, false)
		}
		now, _ := s.Leases.Until(of("b", 2, 0).Key)
		is(t, x.what+": lent there", now, was)
	}
	s := fresh()
	run(t, s, step{declare(api.Queue{Name: "a"}), ok}, step{to("a", "1"), ids(1)}, step{deliver("a", 1, 1), list(mail("a", 1, 1, "1"))}, step{nack("a", 1, 1, true), gone})
	held(t, "without a Dead", s.W, queuePair(api.Queue{Name: "a"}), counterPair(1))
	lent(t, "without a Dead", s)
}

func TestTickOfLeases(t *testing.T) {
	s := fresh()
	done(t, s, declare(api.Queue{Name: "a"}), declare(api.Queue{Name: "b"}), to("a", "1"), to("a", "2"), to("b", "3"), to("b", "4"))
	done(t, s, deliver("a", 1, 5), deliver("b", 1, 5), deliver("a", 1, 6), deliver("b", 1, 7))
	run(t, s, step{tick(0), ok}, step{tick(4), ok})
	lent(t, "all still", s, of("a", 1, 5), of("b", 3, 5), of("a", 2, 6), of("b", 4, 7))
	run(t, s, step{tick(1), n(2)})
	lent(t, "those", s, of("a", 2, 6), of("b", 4, 7))
	run(t, s,
		step{ack("a", 1, 1), wrong(api.ErrLease)},
		step{deliver("a", 1, 1), list(mail("a", 1, 2, "1"))},
		step{tick(9), n(3)}, step{tick(0), ok},
	)
	is(t, "the clock", s.Clock, 14)
	lent(t, "none", s)
}

func TestTickBounds(t *testing.T) {
	s := fresh()
	run(t, s,
		step{tick(api.MaxTime + 1), wrong(api.ErrTime)}, step{tick(math.MaxUint64), wrong(api.ErrTime)},
		step{tick(1), ok}, step{tick(api.MaxTime), wrong(api.ErrTime)}, step{tick(math.MaxUint64), wrong(api.ErrTime)},
		step{tick(api.MaxTime - 1), ok}, step{tick(0), ok}, step{tick(1), wrong(api.ErrTime)},
	)
	is(t, "the clock", s.Clock, api.MaxTime)
}

// What is due dies, by its time, its queue and its number; what is lent does so when it is ready again.
func TestTickOfTerms(t *testing.T) {
	s := fresh()
	run(t, s,
		step{declare(api.Queue{Name: "dd", TTL: 2}), ok}, step{declare(api.Queue{Name: "b"}), ok}, step{declare(api.Queue{Name: "a", Dead: "dd"}), ok},
		step{publish("", "b", "1", 5), ids(1)}, step{publish("", "a", "2", 5), ids(2)}, step{publish("", "a", "3", 4), ids(3)}, step{publish("", "a", "4", 6), ids(4)}, step{to("a", "5"), ids(5)}, step{publish("", "b", "6", 3), ids(6)},
		step{deliver("a", 1, 5), list(api.Message{Queue: "a", ID: 2, Tries: 1, Expiry: 5, Body: "2"})},
		step{deliver("b", 1, 4), list(api.Message{Queue: "b", ID: 1, Tries: 1, Expiry: 5, Body: "1"})},
		step{extend("b", 1, 1, 6), ok},
		step{tick(2), ok},
		step{tick(3), broker.Reply{N: 1, Lost: []uint64{6}, Dead: []uint64{3, 2}}}, // 2 is ready again just then; 1 is lent yet
		step{browse("dd", 0, 9), list(api.Message{Queue: "dd", ID: 2, Expiry: 7, Body: "2"}, api.Message{Queue: "dd", ID: 3, Expiry: 7, Body: "3"})},
		step{browse("b", 0, 9), list(api.Message{Queue: "b", ID: 1, Tries: 1, Expiry: 5, Body: "1"})},
		step{tick(1), broker.Reply{N: 1, Lost: []uint64{1}, Dead: []uint64{4}}},
		step{tick(1), broker.Reply{Lost: []uint64{2, 3}}},
		step{tick(1), broker.Reply{Lost: []uint64{4}}},
		step{browse("a", 0, 9), list(mail("a", 5, 0, "5"))}, step{stat("b"), ok}, step{stat("dd"), ok},
	)
}

// One that is due, and that made room for one which died ahead of it, isn't told twice.
func TestTickOfWhatWasLostMeanwhile(t *testing.T) {
	s := fresh()
	run(t, s,
		step{declare(api.Queue{Name: "b", Most: 1, TTL: 9}), ok}, step{declare(api.Queue{Name: "a", Dead: "b"}), ok},
		step{publish("", "b", "1", 5), ids(1)}, step{publish("", "a", "2", 4), ids(2)}, step{publish("", "a", "3", 5), ids(3)},
		step{tick(5), broker.Reply{Lost: []uint64{1, 2}, Dead: []uint64{2, 3}}},
		step{browse("b", 0, 9), list(api.Message{Queue: "b", ID: 3, Expiry: 14, Body: "3"})},
		step{stat("a"), ok},
	)
}

func TestStatAndBrowse(t *testing.T) {
	s := fresh()
	run(t, s, step{stat("a"), wrong(api.ErrNone)}, step{browse("a", 0, 0), wrong(api.ErrNone)}, step{declare(api.Queue{Name: "a"}), ok}, step{declare(api.Queue{Name: "b"}), ok},
		step{stat("a"), ok}, step{browse("a", 0, 1), ok})
	for id := range uint64(40) {
		done(t, s, to([]string{"a", "b"}[id%2], "hi"))
	}
	done(t, s, deliver("a", 2, 9), deliver("a", 1, 2), deliver("b", 1, 2), nack("a", 1, 1, false), deliver("a", 1, 9))
	run(t, s,
		step{stat("a"), broker.Reply{N: 20, IDs: []uint64{1, 3, 5}}}, step{stat("b"), broker.Reply{N: 20, IDs: []uint64{2}}},
		step{browse("a", 0, 0), wrong(api.ErrArg)}, step{browse("a", 0, 33), wrong(api.ErrArg)}, step{browse("a", 0, math.MaxUint64), wrong(api.ErrArg)},
		step{browse("a", 0, 2), list(mail("a", 1, 2, "hi"), mail("a", 3, 1, "hi"))}, // lent or not
		step{browse("a", 3, 1), list(mail("a", 3, 1, "hi"))}, step{browse("a", 4, 2), list(mail("a", 5, 1, "hi"), mail("a", 7, 0, "hi"))},
		step{browse("a", 39, 32), list(mail("a", 39, 0, "hi"))}, step{browse("a", 40, 32), ok}, step{browse("a", math.MaxUint64, 32), ok},
	)
	is(t, "at most", len(s.Do(browse("a", 0, 32)).List), 20)
	done(t, s, deliver("a", 17, 9), deliver("b", 19, 9))
	is(t, "lent, rising", len(s.Do(stat("a")).IDs), 20)
	for range 20 {
		done(t, s, to("a", "hi"))
	}
	is(t, "at most", len(s.Do(browse("a", 0, 32)).List), 32)
}

// What reads changes nothing.
func TestReads(t *testing.T) {
	for kind := -2; kind < 20; kind++ {
		is(t, "Reads", broker.Reads(kind), kind == 12 || kind == 13)
	}
	is(t, "Reads", broker.Reads(math.MaxInt) || broker.Reads(math.MinInt), false)
}

func TestSame(t *testing.T) {
	message := mail("a", 1, 1, "hi")
	like := func() broker.Reply {
		return broker.Reply{Err: 1, N: 1, IDs: []uint64{1, 2}, Lost: []uint64{3}, Dead: []uint64{4}, List: []api.Message{message}}
	}
	is(t, "the same", broker.Same(like(), like()), true)
	is(t, "empty or nil", broker.Same(broker.Reply{IDs: []uint64{}, Lost: []uint64{}, Dead: []uint64{}, List: []api.Message{}}, broker.Reply{}), true)
	for i, change := range []func(r *broker.Reply){
		func(r *broker.Reply) { r.Err = 2 }, func(r *broker.Reply) { r.N = 2 }, func(r *broker.Reply) { r.N = 1 + 1<<32 },
		func(r *broker.Reply) { r.IDs = []uint64{2, 1} }, func(r *broker.Reply) { r.IDs = nil }, func(r *broker.Reply) { r.IDs = r.IDs[:1] },
		func(r *broker.Reply) { r.Lost = []uint64{4} }, func(r *broker.Reply) { r.Lost = nil }, func(r *broker.Reply) { r.Dead = []uint64{3} }, func(r *broker.Reply) { r.Dead = nil },
		func(r *broker.Reply) { r.List = nil }, func(r *broker.Reply) { r.List = append(r.List, message) },
		func(r *broker.Reply) { r.List[0].Queue = "b" }, func(r *broker.Reply) { r.List[0].ID = 2 }, func(r *broker.Reply) { r.List[0].Tries = 2 },
		func(r *broker.Reply) { r.List[0].Expiry = 2 }, func(r *broker.Reply) { r.List[0].Body = "ho" },
		func(r *broker.Reply) { r.IDs, r.Lost = r.Lost, r.IDs },
	} {
		a, b := like(), like()
		change(&b)
		is(t, "another one, "+string(rune('a'+i)), broker.Same(a, b) || broker.Same(b, a), false)
		is(t, "it itself", broker.Same(b, b), true)
	}
}

// Replies share nothing with each other, and stay as they were.
func TestRepliesStay(t *testing.T) {
	s := fresh()
	done(t, s, declare(api.Queue{Name: "a"}), to("a", "1"), to("a", "2"))
	one, two := s.Do(deliver("a", 2, 5)), s.Do(browse("a", 0, 2))
	one.List[0].Body = "changed"
	is(t, "the other", two.List[0].Body, "1")
	one, two = s.Do(stat("a")), s.Do(stat("a"))
	one.IDs[0] = 9
	alike(t, "the other", two.IDs, []uint64{1, 2})
	says(t, "the state", s.Do(stat("a")), broker.Reply{N: 2, IDs: []uint64{1, 2}})
}
