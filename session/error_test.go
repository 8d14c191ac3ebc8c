package session_test

import (
	"slices"
	"strings"
	"testing"

	"taproot/api"
	"taproot/broker"
	"taproot/check"
	"taproot/command"
	"taproot/disk"
	"taproot/session"
)

// lost wants all that a broker is asked to answer that error, but what answers as ever.
func lost(t *testing.T, b *session.Broker, want api.Errno, clock uint64, loans []loan) {
	t.Helper()
	for range 2 {
		for _, l := range [][]command.Command{nil, {tick(1)}, {drop("none"), {}}} {
			replies, e := b.Batch(l)
			is(t, "lost: Batch", e, want)
			is(t, "lost: no replies", len(replies), 0)
		}
		replies, e := b.Do(laid())
		is(t, "lost: Do", len(replies) == 0 && e == want, true)
		n, e := b.Snap()
		is(t, "lost: Snap", n == 0 && e == want, true)
		for _, n := range []int{0, 1, 99} {
			fails(t, b, n, "none", 0, 0, want)
			is(t, "lost: Close", b.Close(n), want)
		}
		is(t, "lost: Now", b.Now() == nil, true)
		is(t, "lost: the clock stays", b.Clock(), clock)
		alike(t, "lost: the leases stay", lent(b.Leases()), loans)
		is(t, "lost: the store", b.Store().Err(), want)
	}
	_, e := b.Batch(slices.Repeat([]command.Command{tick(1)}, 65))
	is(t, "lost: too many", e, api.ErrMany)
	_, e = b.Do("\x00")
	is(t, "lost: other bytes", e, api.ErrShort)
}

// much is a batch that changes many pages, the leases and the clock.
func much() []command.Command {
	return []command.Command{to("a", strings.Repeat("long", 2500)), deliver("a", 9, 20), tick(3), nack("a", 1, 3), declare("b")}
}

// begun is a broker with a message that is lent and a snapshot.
func begun(t *testing.T) (*disk.Disk, *session.Broker, int) {
	t.Helper()
	d, b := fresh(t, 60, declare("a"), to("a", "one"), deliver("a", 1, 5), nack("a", 1, 1), to("a", strings.Repeat("two", 3000)), tick(2))
	did(t, b, deliver("a", 2, 50), nack("a", 1, 2))
	n, e := b.Snap()
	is(t, "Snap", e, api.OK)
	return d, b, n
}

// steps is how many steps a batch is.
func steps(t *testing.T) int {
	t.Helper()
	d, b, _ := begun(t)
	was := d.Steps()
	did(t, b, much()...)
	return d.Steps() - was
}

// Wherever the power goes in a Commit: each reply tells it, and the leases and the clock are as they were. Opened again there is the old state, or the new one, if it was kept.
func TestPowerGoesInACommit(t *testing.T) {
	l, n := much(), steps(t)
	is(t, "there are some", n > 6, true)
	for fuse := range n {
		for kind := range 3 {
			d, b, _ := begun(t)
			was := shown(t, b)
			was.loans, was.snaps = nil, nil
			clock, loans := b.Clock(), lent(b.Leases())
			d.Fuse(fuse)
			replies, e := b.Batch(l)
			is(t, "the power went", e, api.ErrPower)
			says(t, "the power went", replies, each(len(l), api.ErrPower))
			lost(t, b, api.ErrPower, clock, loans)
			d.Crash(slices.Repeat([]api.Fate{{Kind: kind, Cut: 90}}, len(d.Waits())))
			lost(t, b, api.ErrPower, clock, loans)
			b = opened(t, d)
			if fuse < n-1 || kind == 0 { // ahead of the last Sync the root isn't there, nor if it is lost
				same(t, "the old state", b, was)
				continue
			}
			if b.Now().Tx() == was.tx {
				same(t, "a torn root", b, was)
				continue
			}
			is(t, "the clock", b.Clock(), 5)
			long := strings.Repeat("long", 2500)
			says(t, "the new state", did(t, b, stat("a"), stat("b"), browse("a", 0, 9)), []broker.Reply{{N: 3}, {},
				list(letter("a", 1, 3, "one"), letter("a", 2, 1, strings.Repeat("two", 3000)), letter("a", 3, 1, long))})
			lasting(t, "the new state", b)
		}
	}
}

// Behind the last step all is there, whatever becomes of the power.
func TestPowerGoesBehindACommit(t *testing.T) {
	d, b, _ := begun(t)
	d.Fuse(steps(t))
	did(t, b, much()...)
	was := shown(t, b)
	was.loans, was.snaps = nil, nil
	was.oldest = was.tx
	d.Crash(nil)
	same(t, "opened again", opened(t, d), was)
}

// A command that meets the power gone tells it, all others ErrAborted. Nothing was begun to be written: when the power is there again, all goes on as it was.
func TestNoPowerAheadOfACommand(t *testing.T) {
	d, b, n := begun(t)
	was := shown(t, b)
	d.Fuse(0)
	is(t, "the power goes", d.Sync(), api.ErrPower)
	for _, l := range [][]command.Command{{stat("a")}, much(), {tick(1), drop("none"), {}}} {
		replies, e := b.Batch(l)
		is(t, "no power", e, api.ErrPower)
		says(t, "no power", replies, aborted(len(l), 0, api.ErrPower))
		is(t, "it isn't lost", b.Store().Err(), api.OK)
	}
	replies, e := b.Batch([]command.Command{{Kind: 99}, stat("a")})
	is(t, "what is wrong is told first", e, api.ErrKind)
	says(t, "what is wrong is told first", replies, aborted(2, 0, api.ErrKind))
	fails(t, b, n, "a", 0, 1, api.ErrPower)
	fails(t, b, n, "a", 0, 0, api.ErrPower)
	fails(t, b, 99, "a", 0, 1, api.ErrHandle)
	replies, e = b.Batch(nil)
	is(t, "nothing is nothing", e == api.OK && len(replies) == 0, true)
	d.Crash(nil)
	same(t, "the power is there", b, was)
	look(t, b, n, "a", 0, 1, letter("a", 1, 2, "one"))
	did(t, b, ack("a", 2, 1))
	lasting(t, "it goes on", b)
}

// A page that isn't whole is met by whoever needs it, and told.
func TestBrokenPage(t *testing.T) {
	d, b, n := begun(t)
	was := shown(t, b)
	r, e := check.Of(b.Store().Pager(), b.Store().Base())
	is(t, "check", e == api.OK && len(r.Chains) == 3, true)
	chain := r.Chains[1] // of the long message
	whole := d.Lasts(chain)
	is(t, "Write", d.Write(chain, api.Page{}), api.OK)
	replies, e := b.Batch([]command.Command{to("a", "more"), purge("a"), stat("a")})
	is(t, "the sum", e, api.ErrSum)
	says(t, "the sum", replies, aborted(3, 1, api.ErrSum))
	fails(t, b, n, "a", 0, 9, api.ErrSum)
	is(t, "it isn't lost", b.Store().Err(), api.OK)
	is(t, "Write", d.Write(chain, whole), api.OK)
	same(t, "it is whole again", b, was)
}

// filled is what a batch without a page left came to: was it found by a command, or by the Commit?
func filled(t *testing.T, replies []broker.Reply) (byCommand bool) {
	t.Helper()
	full, aborts := 0, 0
	for _, r := range replies {
		switch r.Err {
		case api.ErrFull:
			full++
		case api.ErrAborted:
			aborts++
		}
	}
	is(t, "each tells one or the other", full+aborts, len(replies))
	is(t, "one of them, or all", full == 1 || full == len(replies), true)
	for _, r := range replies {
		says(t, "and nothing else", []broker.Reply{r}, []broker.Reply{{Err: r.Err}})
	}
	return full != len(replies)
}

// Without a page a batch changes nothing, be it that a command found none or that the Commit did; and the broker goes on.
func TestFull(t *testing.T) {
	commands, commits := 0, 0
	for pages := 8; pages < 30; pages++ {
		_, b := fresh(t, pages, declare("a"), to("a", "one"), deliver("a", 1, 90))
		for long := 0; long <= 30000; long += 1500 {
			was := shown(t, b)
			l := []command.Command{extend("a", 1, 1, 500), tick(1), to("a", strings.Repeat("b", long)), tick(1)}
			replies, e := b.Batch(l)
			if e == api.OK {
				continue
			}
			is(t, "no page", e, api.ErrFull)
			if filled(t, replies) {
				commands++
			} else {
				commits++
			}
			same(t, "nothing is changed", b, was)
			is(t, "it isn't lost", b.Store().Err(), api.OK)
			did(t, b, stat("a"), extend("a", 1, 1, 90)) // what writes nothing goes
		}
	}
	is(t, "both came", commands > 50 && commits > 5, true)
}
