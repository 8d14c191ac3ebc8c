package session_test

import (
	"slices"
	"strings"
	"testing"

	"taproot/api"
	"taproot/broker"
	"taproot/command"
	"taproot/session"
	"taproot/txn"
)

func TestOpenOfANewDisk(t *testing.T) {
	b := opened(t, newDisk(t, 4))
	is(t, "the clock", b.Clock(), 0)
	is(t, "the number", b.Now().Tx(), 1)
	is(t, "pairs", len(all(t, b.Now().Range("", ""))), 0)
	is(t, "snapshots", len(b.Store().Snaps()), 0)
	lasting(t, "a new disk", b)
}

func TestOpenFails(t *testing.T) {
	b, e := session.Open(nil)
	is(t, "without a disk", b == nil && e == api.ErrNil, true)
	for fuse := range 2 {
		d := newDisk(t, 4)
		d.Fuse(fuse)
		b, e = session.Open(d)
		is(t, "without power", b == nil && e == api.ErrPower, true)
	}
}

// What was lent is ready behind an Open, with its Tries; the clock goes on.
func TestOpenAgain(t *testing.T) {
	d, b := fresh(t, 40, declared(api.Queue{Name: "a", Tries: 2}), to("a", "one"), to("a", "two"), tick(7))
	did(t, b, deliver("a", 1, 50))
	alike(t, "lent", lent(b.Leases()), []loan{of("a", 1, 57)})
	was := shown(t, b)

	b = opened(t, d)
	is(t, "the clock", b.Clock(), 7)
	was.loans = nil
	same(t, "opened again", b, was)
	says(t, "the token is none", did(t, b, stat("a")), []broker.Reply{{N: 2}})
	replies, e := b.Batch([]command.Command{ack("a", 1, 1)})
	is(t, "it isn't lent", e, api.ErrLease)
	says(t, "its Tries", replies, []broker.Reply{{Err: api.ErrLease}})
	says(t, "delivered again", did(t, b, deliver("a", 9, 5)),
		[]broker.Reply{list(letter("a", 1, 2, "one"), letter("a", 2, 1, "two"))})
	alike(t, "by the clock", lent(b.Leases()), []loan{of("a", 1, 12), of("a", 2, 12)})

	b = opened(t, d)
	says(t, "once too often", did(t, b, deliver("a", 9, 5)),
		[]broker.Reply{{Lost: []uint64{1}, List: []api.Message{letter("a", 2, 2, "two")}}})
}

func TestBatch(t *testing.T) {
	_, b := fresh(t, 40)
	says(t, "one behind the other", did(t, b,
		declare("d"), declared(api.Queue{Name: "a", Tries: 1, Dead: "d"}), to("a", "one"), to("a", "two"),
		deliver("a", 1, 5), nack("a", 1, 1), deliver("a", 1, 5), stat("a"), browse("d", 0, 9), tick(3)),
		[]broker.Reply{{}, {}, ids(1), ids(2), list(letter("a", 1, 1, "one")), {},
			{Dead: []uint64{1}, List: []api.Message{letter("a", 2, 1, "two")}}, ids(2), list(letter("d", 1, 0, "one")), {}})
	is(t, "the clock", b.Clock(), 3)
	alike(t, "lent", lent(b.Leases()), []loan{of("a", 2, 5)})
	is(t, "a commit", b.Now().Tx(), 2)
	lasting(t, "behind a batch", b)

	says(t, "the next one", did(t, b, ack("a", 2, 1), stat("a"), tick(1)), []broker.Reply{{}, {}, {}})
	is(t, "the clock goes on", b.Clock(), 4)
	is(t, "nothing is lent", b.Leases().Len(), 0)
	is(t, "another commit", b.Now().Tx(), 3)
	lasting(t, "behind the next one", b)
}

// The examples of the document's whole.
func TestExamples(t *testing.T) {
	_, b := fresh(t, 40)
	replies, e := b.Batch([]command.Command{declare("a"), declare("a")})
	is(t, "the chapter's", e, api.ErrThere)
	says(t, "the chapter's", replies, aborted(2, 1, api.ErrThere))
	_, e = b.Batch([]command.Command{stat("a")})
	is(t, "there is no queue", e, api.ErrNone)

	says(t, "1", did(t, b, declare("a"), to("a", "hi"), deliver("a", 1, 5)),
		[]broker.Reply{{}, ids(1), list(letter("a", 1, 1, "hi"))})
	says(t, "2", did(t, b, ack("a", 1, 1)), []broker.Reply{{}})
	_, e = b.Batch([]command.Command{ack("a", 1, 1)})
	is(t, "2: again", e, api.ErrNone)
	was := shown(t, b)
	replies, e = b.Batch([]command.Command{to("a", "hi"), drop("b")})
	is(t, "6", e, api.ErrNone)
	says(t, "6", replies, aborted(2, 1, api.ErrNone))
	same(t, "6", b, was)

	did(t, b, to("a", "hi"))
	n, e := b.Snap()
	is(t, "8", e, api.OK)
	says(t, "8", did(t, b, purge("a")), []broker.Reply{{N: 1}})
	l, e := b.Browse(n, "a", 0, 9)
	is(t, "8", e, api.OK)
	alike(t, "8", l, []api.Message{letter("a", 2, 0, "hi")})

	_, b = fresh(t, 4, declare("a"))
	was = shown(t, b)
	_, e = b.Batch([]command.Command{declare("b")})
	is(t, "9", e, api.ErrFull)
	same(t, "9", b, was)
}

func TestNoCommands(t *testing.T) {
	d, b := fresh(t, 40, declare("a"), to("a", "hi"), deliver("a", 1, 5))
	was, steps := shown(t, b), d.Steps()
	for _, l := range [][]command.Command{nil, {}} {
		replies, e := b.Batch(l)
		is(t, "OK", e, api.OK)
		is(t, "no replies", len(replies), 0)
		same(t, "nothing is changed", b, was)
	}
	is(t, "nothing was written", d.Steps(), steps)
}

func TestTooManyCommands(t *testing.T) {
	_, b := fresh(t, 40, declare("a"))
	l := slices.Repeat([]command.Command{to("a", "hi")}, 64)
	did(t, b, l...)
	says(t, "64 go", did(t, b, stat("a")), []broker.Reply{{N: 64}})
	was := shown(t, b)
	for _, n := range []int{65, 1000} {
		replies, e := b.Batch(slices.Repeat(l[:1], n))
		is(t, "too many", e, api.ErrMany)
		is(t, "no replies", len(replies), 0)
		same(t, "too many", b, was)
	}
	_, e := b.Store().Begin()
	is(t, "Begin", e, api.OK)
	_, e = b.Batch(slices.Repeat(l[:1], 65))
	is(t, "it is looked at first", e, api.ErrMany)
	is(t, "what is open stays so", b.Store().Abort(), api.OK)
}

// A transaction that somebody else has open isn't touched.
func TestTransactionOpen(t *testing.T) {
	_, b := fresh(t, 40, declare("a"), to("a", "hi"), deliver("a", 1, 5))
	x, e := b.Store().Begin()
	is(t, "Begin", e, api.OK)
	loans := lent(b.Leases())
	for _, l := range [][]command.Command{nil, {stat("a")}, {declare("b"), nack("a", 1, 1)}, {drop("none")}} {
		replies, e := b.Batch(l)
		is(t, "it is open", e, api.ErrOpen)
		is(t, "no replies", len(replies), 0)
	}
	is(t, "it lives", x.Err(), api.OK)
	is(t, "Put", x.Put("z", "1"), api.OK)
	is(t, "Commit", b.Store().Commit(9), api.OK)
	alike(t, "lent as it was", lent(b.Leases()), loans)
	is(t, "the clock is the root's", b.Clock(), 9)
	says(t, "it goes on", did(t, b, stat("a"), deliver("a", 1, 5), tick(1)), []broker.Reply{ids(1), {}, {N: 1}})
	is(t, "from there", b.Clock(), 10)
	value, there, e := b.Now().Get("z")
	is(t, "what was put is there", value == "1" && there && e == api.OK, true)
	lasting(t, "behind it", b)
}

// Wherever the first error is, that one is told; all else of the batch is as though it hadn't been.
func TestFirstError(t *testing.T) {
	good := []command.Command{declare("b"), to("a", "more"), deliver("a", 2, 9), nack("a", 1, 1), extend("a", 2, 1, 30), tick(4), purge("a")}
	wrong := map[api.Errno]command.Command{
		api.ErrThere: declare("a"), api.ErrNone: drop("none"), api.ErrKind: {Kind: 14}, api.ErrForm: {Kind: command.Tick, N: 1},
		api.ErrLong: declare(strings.Repeat("n", 33)), api.ErrName: declare(""), api.ErrArg: browse("a", 0, 33),
		api.ErrTime: tick(1 << 41), api.ErrLease: ack("a", 3, 0),
	}
	d, b := fresh(t, 60, declare("a"), to("a", "one"), to("a", "two"), to("a", "three"), deliver("a", 2, 5), tick(1))
	was, steps := shown(t, b), d.Steps()
	for want, c := range wrong {
		for at := range len(good) { // behind the last one a's messages are gone
			l := slices.Insert(slices.Clone(good), at, c)
			replies, e := b.Batch(l)
			is(t, "the answer", e, want)
			says(t, "the first error", replies, aborted(len(l), at, want))
			same(t, "nothing is changed", b, was)
		}
	}
	replies, e := b.Batch([]command.Command{tick(1), drop("none"), declare("a"), {}})
	is(t, "of several", e, api.ErrNone)
	says(t, "of several", replies, aborted(4, 1, api.ErrNone))
	is(t, "nothing was written", d.Steps(), steps)
	says(t, "it goes on", did(t, b, stat("a"), ack("a", 1, 1), nack("a", 2, 1)), []broker.Reply{{N: 3, IDs: []uint64{1, 2}}, {}, {}})
}

// Only where pages are changed, or the clock is, there is a Commit; what is lent is known without one.
func TestWhatIsCommitted(t *testing.T) {
	for what, x := range map[string]struct {
		l       []command.Command
		commits bool
		loans   []loan
	}{
		"stat":      {[]command.Command{stat("a")}, false, []loan{of("a", 1, 6)}},
		"browse":    {[]command.Command{browse("a", 0, 9)}, false, []loan{of("a", 1, 6)}},
		"nack":      {[]command.Command{nack("a", 1, 1)}, false, nil},
		"extend":    {[]command.Command{extend("a", 1, 1, 9)}, false, []loan{of("a", 1, 10)}},
		"both":      {[]command.Command{extend("a", 1, 1, 9), stat("a"), nack("a", 1, 1)}, false, nil},
		"tick 0":    {[]command.Command{tick(0)}, false, []loan{of("a", 1, 6)}},
		"tick":      {[]command.Command{tick(1)}, true, []loan{of("a", 1, 6)}},
		"tick 5":    {[]command.Command{tick(5)}, true, nil},
		"to nobody": {[]command.Command{{Kind: command.Publish, Exchange: "x", Key: "b"}}, false, []loan{of("a", 1, 6)}},
		"none came": {[]command.Command{deliver("c", 1, 5)}, false, []loan{of("a", 1, 6)}},
		"purge":     {[]command.Command{purge("c")}, false, []loan{of("a", 1, 6)}},
		"publish":   {[]command.Command{to("a", "")}, true, []loan{of("a", 1, 6)}},
		"deliver":   {[]command.Command{deliver("a", 1, 5)}, true, []loan{of("a", 1, 6), of("a", 2, 6)}},
		"ack":       {[]command.Command{ack("a", 1, 1)}, true, nil},
		"declare":   {[]command.Command{declare("b"), stat("a")}, true, []loan{of("a", 1, 6)}},
		"nothing":   {[]command.Command{declare("b"), drop("b")}, true, []loan{of("a", 1, 6)}}, // on pages of its own, all the same
	} {
		d, b := fresh(t, 60, declare("a"), declare("c"), bound("x", "a", "a"), to("a", "one"), to("a", "two"), tick(1), deliver("a", 1, 5))
		was, steps := shown(t, b), d.Steps()
		did(t, b, x.l...)
		alike(t, what+": lent", lent(b.Leases()), x.loans)
		lasting(t, what, b)
		if x.commits {
			is(t, what+": committed", b.Now().Tx(), was.tx+1)
			continue
		}
		is(t, what+": no step", d.Steps(), steps)
		was.loans = x.loans
		same(t, what+": no commit", b, was)
	}
}

// What gave all its pages up, on an empty base, has changed none.
func TestChangedAsLayer15Says(t *testing.T) {
	_, b := fresh(t, 60)
	x, e := b.Store().Begin()
	is(t, "Begin", e, api.OK)
	is(t, "Put", x.Put("a", ""), api.OK)
	_, e = x.Cut("a")
	is(t, "Cut", e, api.OK)
	changed := x.Changed()
	is(t, "Abort", b.Store().Abort(), api.OK)
	did(t, b, declare("b"), drop("b"))
	is(t, "committed", b.Now().Tx() == 2, changed)
}

func TestDo(t *testing.T) {
	l := []command.Command{declare("a"), to("a", "hi"), deliver("a", 1, 5), tick(2)}
	_, b := fresh(t, 40)
	_, twin := fresh(t, 40)
	bytes, e := command.Batch(l)
	is(t, "bytes", e, api.OK)
	replies, e := b.Do(bytes)
	is(t, "Do", e, api.OK)
	says(t, "Do", replies, did(t, twin, l...))
	same(t, "as Batch", b, shown(t, twin))

	was := shown(t, b)
	replies, e = b.Do(laid("\x0b\x00\x00\x00\x00\x00\x00\x00\x01", "\x02\x00\x00\x00\x01x"))
	is(t, "an error", e, api.ErrNone)
	says(t, "an error", replies, aborted(2, 1, api.ErrNone))
	same(t, "an error", b, was)
	replies, e = b.Do(laid())
	is(t, "no commands", e == api.OK && len(replies) == 0, true)
	same(t, "no commands", b, was)
	replies, e = b.Do(laid("\x0b\x00\x00\x00\x00\x00\x00\x00\x01"))
	is(t, "one", e, api.OK)
	says(t, "one", replies, []broker.Reply{{}})
	is(t, "the clock", b.Clock(), 3)
}

func TestDoOfOtherBytes(t *testing.T) {
	_, b := fresh(t, 60, declare("a"))
	was, one := shown(t, b), "\x0b\x00\x00\x00\x00\x00\x00\x00\x01"
	many := laid(slices.Repeat([]string{one}, 65)...)
	for bytes, want := range map[string]api.Errno{
		"": api.ErrShort, "\x00\x00\x00\x01": api.ErrShort, laid(one)[:12]: api.ErrShort, laid("\x0e"): api.ErrKind, laid("\x00"): api.ErrKind,
		laid(one) + "\x00": api.ErrForm, laid("\x02\x00\x00\x00\x21"): api.ErrLong, "\x00\x00\x00\x41": api.ErrMany, many: api.ErrMany,
	} {
		replies, e := b.Do(bytes)
		is(t, "layer 24's", e, want)
		is(t, "no replies", len(replies), 0)
		same(t, "nothing is changed", b, was)
	}
	replies, e := b.Do(laid(slices.Repeat([]string{one}, 64)...))
	is(t, "64 go", e == api.OK && len(replies) == 64, true)

	_, e = b.Store().Begin()
	is(t, "Begin", e, api.OK)
	_, e = b.Do("\x00")
	is(t, "the bytes are looked at first", e, api.ErrShort)
	_, e = b.Do(laid(one))
	is(t, "then what is open", e, api.ErrOpen)
}

func TestNilBroker(t *testing.T) {
	var b *session.Broker
	for _, n := range []int{0, 1, 64, 65} {
		replies, e := b.Batch(slices.Repeat([]command.Command{tick(1)}, n))
		is(t, "Batch", len(replies) == 0 && e == api.ErrNil, true)
	}
	for _, bytes := range []string{"", "\x00", laid(), laid("\x0b\x00\x00\x00\x00\x00\x00\x00\x01"), "\xff\xff\xff\xff"} {
		replies, e := b.Do(bytes)
		is(t, "Do", len(replies) == 0 && e == api.ErrNil, true)
	}
	n, e := b.Snap()
	is(t, "Snap", n == 0 && e == api.ErrNil, true)
	for _, most := range []int{0, 1, 33} {
		l, e := b.Browse(1, "a", 0, most)
		is(t, "Browse", len(l) == 0 && e == api.ErrNil, true)
	}
	is(t, "Close", b.Close(1), api.ErrNil)
	is(t, "Clock", b.Clock(), 0)
	is(t, "Leases", b.Leases().Len(), 0)
	alike(t, "Leases is one to be used", lent(b.Leases().Lend(of("b", 1, 0).Key, 5).Lend(of("a", 1, 0).Key, 5).Lend(of("c", 1, 0).Key, 5)),
		[]loan{of("a", 1, 5), of("b", 1, 5), of("c", 1, 5)})
	is(t, "Now", b.Now() == nil, true)
	is(t, "Store", b.Store() == nil, true)
}

// What is answered, and what is handed in, is nobody else's.
func TestMemory(t *testing.T) {
	_, b := fresh(t, 40)
	l := []command.Command{declare("a"), to("a", "hi"), to("a", "ho"), deliver("a", 2, 5), stat("a")}
	own := slices.Clone(l)
	replies := did(t, b, l[:5:5]...)
	alike(t, "the commands", l, own)
	table, was := b.Leases(), shown(t, b)
	replies[3].List[0].Body, replies[4].IDs[0] = "x", 99
	_ = append(replies[1].IDs, 7)
	clear(l)
	same(t, "what was answered is changed", b, was)
	n, _ := b.Snap()
	first, _ := b.Browse(n, "a", 0, 9)
	clear(first)
	again, _ := b.Browse(n, "a", 0, 9)
	alike(t, "a look again", again, []api.Message{letter("a", 1, 1, "hi"), letter("a", 2, 1, "ho")})
	did(t, b, nack("a", 1, 1))
	alike(t, "a table that was told", lent(table), was.loans)
	wrong, e := b.Batch([]command.Command{drop("none"), tick(1)})
	is(t, "an error", e, api.ErrNone)
	clear(wrong)
	wrong, _ = b.Batch([]command.Command{drop("none"), tick(1)})
	says(t, "it is told anew", wrong, aborted(2, 0, api.ErrNone))
}

// A broker's Now is its store's: of what is committed, not of what comes.
func TestNow(t *testing.T) {
	_, b := fresh(t, 40, declare("a"))
	v := b.Now()
	did(t, b, declare("b"))
	is(t, "the elder one", v.Tx(), 2)
	is(t, "its pairs", len(all(t, v.Range("", ""))), 1)
	is(t, "the newer one", b.Now().Tx(), 3)
	is(t, "its pairs", len(all(t, b.Now().Range("", ""))), 2)
	is(t, "the store's", b.Store().Now().Tx(), 3)
	is(t, "one store", b.Store(), b.Store())
	var _ *txn.View = b.Now()
}
