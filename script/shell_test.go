package script_test

import (
	"math"
	"slices"
	"strings"
	"testing"

	"taproot/api"
	"taproot/broker"
	"taproot/command"
	"taproot/script"
	"taproot/session"
)

func TestStart(t *testing.T) {
	for _, pages := range []int{0, -1, 3, 2049, math.MaxInt, math.MinInt} {
		h, e := script.Start(pages)
		is(t, "an error", e, api.ErrArg)
		is(t, "beside it", h == nil, true)
	}
	for _, pages := range []int{4, 5, 100, 2048} {
		h := started(t, pages)
		is(t, "a new disk", h.Disk.Down(), false)
		is(t, "its broker", h.Broker.Clock(), 0)
		is(t, "on that disk", len(all(t, h.Broker.Now().Range("", ""))), 0)
		b, e := session.Open(h.Disk)
		is(t, "it has a root", e == api.OK && b.Now().Tx() == h.Broker.Now().Tx(), true)
	}
	a, b := started(t, 4), started(t, 4)
	done(t, a, "declare \"a\" 0 0 0 \"\"\ncommit\n")
	is(t, "another disk", does(t, b, "drop \"a\"\ncommit\n").Err, api.ErrNone)
}

func TestNilShell(t *testing.T) {
	var h *script.Shell
	for _, l := range lines() {
		same(t, "of a nil shell", h.Do(l), script.Answer{Err: api.ErrNil})
	}
	same(t, "ahead of Print's error", h.Do(script.Line{}), script.Answer{Err: api.ErrNil})
}

func TestBatches(t *testing.T) {
	h := started(t, 40)
	same(t, "it waits", does(t, h, "declare \"d\" 0 0 0 \"\"\n"), script.Answer{})
	same(t, "it waits", does(t, h, "declare \"a\" 0 0 1 \"d\"\n"), script.Answer{})
	same(t, "it waits", does(t, h, "publish \"\" \"a\" \"hi\" 0\n"), script.Answer{})
	alike(t, "what waits", h.Waiting, []command.Command{
		{Kind: command.Declare, Queue: api.Queue{Name: "d"}},
		{Kind: command.Declare, Queue: api.Queue{Name: "a", Tries: 1, Dead: "d"}},
		{Kind: command.Publish, Key: "a", Body: "hi"},
	})
	is(t, "nothing is done yet", len(all(t, h.Broker.Now().Range("", ""))), 0)
	same(t, "a batch", does(t, h, "commit\n"), script.Answer{Replies: []broker.Reply{{}, {}, {N: 1, IDs: []uint64{1}}}})
	is(t, "none waits", len(h.Waiting), 0)
	same(t, "nothing is a batch", does(t, h, "commit\n"), script.Answer{})
	m := api.Message{Queue: "a", ID: 1, Tries: 1, Body: "hi"}
	same(t, "another one", does(t, h, "tick 0\ndeliver \"a\" 9 5\ncommit\n"), script.Answer{Replies: []broker.Reply{{}, {List: []api.Message{m}}}})
	same(t, "dead", does(t, h, "nack \"a\" 1 1 yes\nstat \"a\"\nstat \"d\"\ncommit\n"), script.Answer{Replies: []broker.Reply{{Dead: []uint64{1}}, {}, {N: 1}}})
	same(t, "what each of them says", does(t, h, "tick 7\nbrowse \"d\" 0 9\ncommit\n"), script.Answer{Replies: []broker.Reply{{}, {List: []api.Message{{Queue: "d", ID: 1, Body: "hi"}}}}})
	is(t, "the clock", h.Broker.Clock(), 7)
}

func TestBatchesWithErrors(t *testing.T) {
	h := started(t, 40)
	aborted := script.Answer{Err: api.ErrThere, Replies: []broker.Reply{{Err: api.ErrAborted}, {Err: api.ErrThere}, {Err: api.ErrAborted}}}
	same(t, "an error", does(t, h, "declare \"a\" 0 0 0 \"\"\ndeclare \"a\" 0 0 0 \"\"\ntick 1\ncommit\n"), aborted)
	is(t, "none waits behind an error", len(h.Waiting), 0)
	same(t, "nothing was done", does(t, h, "stat \"a\"\ncommit\n"), script.Answer{Err: api.ErrNone, Replies: []broker.Reply{{Err: api.ErrNone}}})
	done(t, h, strings.Repeat("tick 1\n", 64))
	a := does(t, h, "commit\n")
	is(t, "64 are a batch", a.Err == api.OK && len(a.Replies) == 64, true)
	done(t, h, strings.Repeat("tick 1\n", 65))
	is(t, "as many as one likes wait", len(h.Waiting), 65)
	same(t, "65 are too many", does(t, h, "commit\n"), script.Answer{Err: api.ErrMany})
	is(t, "none waits behind them", len(h.Waiting), 0)
	is(t, "the clock", h.Broker.Clock(), 64)
}

func TestWithoutAPage(t *testing.T) {
	h := started(t, 4)
	full := script.Answer{Err: api.ErrFull, Replies: slices.Repeat([]broker.Reply{{Err: api.ErrFull}}, 2)}
	done(t, h, "declare \"a\" 0 0 0 \"\"\ncommit\n")
	same(t, "no page is left", does(t, h, "publish \"\" \"a\" \"hi\" 0\ntick 1\ncommit\n"), full)
	is(t, "none waits", len(h.Waiting), 0)
}

func TestLooks(t *testing.T) {
	h := started(t, 60)
	done(t, h, "declare \"a\" 0 0 0 \"\"\npublish \"\" \"a\" \"one\" 0\npublish \"\" \"a\" \"two\" 9\ncommit\n")
	n := done(t, h, "snap\n").N
	same(t, "a snapshot", script.Answer{N: n}, script.Answer{N: h.Broker.Store().Snaps()[0]})
	one, two := api.Message{Queue: "a", ID: 1, Body: "one"}, api.Message{Queue: "a", ID: 2, Expiry: 9, Body: "two"}
	look := func(queue string, from uint64, most int64) script.Answer {
		return h.Do(script.Line{Kind: script.Look, N: int64(n), Queue: queue, From: from, Most: most})
	}
	done(t, h, "purge \"a\"\npublish \"\" \"a\" \"three\" 0\ncommit\n")
	for range 2 {
		same(t, "what was", look("a", 0, 32), script.Answer{List: []api.Message{one, two}})
		same(t, "one", look("a", 0, 1), script.Answer{List: []api.Message{one}})
		same(t, "from the second on", look("a", 2, 9), script.Answer{List: []api.Message{two}})
		same(t, "none", look("a", 3, 9), script.Answer{})
		same(t, "far beyond", look("a", math.MaxUint64, 9), script.Answer{})
		for _, most := range []int64{0, -1, 33, math.MaxInt64, math.MinInt64, 1 << 32, 1<<32 + 1, -1 << 32} {
			same(t, "too many", look("a", 0, most), script.Answer{Err: api.ErrArg})
			same(t, "no queue ahead of it", look("b", 0, most), script.Answer{Err: api.ErrNone})
		}
		for _, other := range []int64{int64(n) + 1, -1, math.MaxInt64, math.MinInt64, 1<<32 + int64(n)} {
			l := script.Line{Kind: script.Look, N: other, Queue: "a", Most: 9}
			same(t, "no snapshot", h.Do(l), script.Answer{Err: api.ErrHandle})
		}
	}
	m := done(t, h, "snap\n").N
	is(t, "another one", m != n, true)
	same(t, "what was then", h.Do(script.Line{Kind: script.Look, N: int64(m), Queue: "a", Most: 9}), script.Answer{List: []api.Message{{Queue: "a", ID: 3, Body: "three"}}})
	same(t, "closed", h.Do(script.Line{Kind: script.Close, N: int64(n)}), script.Answer{})
	same(t, "it is gone", look("a", 0, 9), script.Answer{Err: api.ErrHandle})
	alike(t, "the other one stays", h.Broker.Store().Snaps(), []int{m})
	for _, other := range []int64{int64(n), int64(m) + 1, -1, math.MaxInt64, math.MinInt64, 1<<32 + int64(m)} {
		same(t, "closed twice, or none", h.Do(script.Line{Kind: script.Close, N: other}), script.Answer{Err: api.ErrHandle})
	}
	for range api.MaxSnaps - 1 {
		done(t, h, "snap\n")
	}
	same(t, "too many", does(t, h, "snap\n"), script.Answer{Err: api.ErrSnaps})
}

// What waits stays through all that isn't a commit or a crash.
func TestWhatWaitsStays(t *testing.T) {
	h := started(t, 40)
	done(t, h, "declare \"a\" 0 0 0 \"\"\ncommit\nsnap\npublish \"\" \"a\" \"hi\" 0\n")
	wait := []command.Command{{Kind: command.Publish, Key: "a", Body: "hi"}}
	for _, l := range []script.Line{{Kind: script.Snap}, {Kind: script.Look}, {Kind: script.Look, N: 1, Queue: "a", Most: 1}, {Kind: script.Close, N: 1}, {Kind: script.Close, N: 99}, {Kind: script.Fuse, N: 100}, {}, {Kind: 99}, of(command.Command{}), {Kind: script.Commit, N: 1}, {Kind: script.Crash, From: 1}, of(queue(command.Drop, strings.Repeat("n", 33)))} {
		h.Do(l)
		alike(t, "what waits", h.Waiting, wait)
	}
	same(t, "it is done", does(t, h, "commit\n"), script.Answer{Replies: []broker.Reply{{N: 1, IDs: []uint64{1}}}})
}

// What has an error of Print's does nothing, and answers it.
func TestWrongLines(t *testing.T) {
	h := started(t, 40)
	done(t, h, "declare \"a\" 0 0 0 \"\"\ncommit\nsnap\ntick 1\n")
	was := shown(t, h.Disk, h.Broker)
	b := h.Broker
	long := strings.Repeat("n", 33)
	for _, w := range []struct {
		l    script.Line
		want api.Errno
	}{
		{script.Line{}, api.ErrForm},
		{script.Line{Kind: 20}, api.ErrForm},
		{script.Line{Kind: -1}, api.ErrForm},
		{script.Line{Kind: command.Tick}, api.ErrForm},
		{script.Line{Command: command.Command{Kind: command.Tick}}, api.ErrForm},
		{script.Line{Kind: script.Commit, N: 1}, api.ErrForm},
		{script.Line{Kind: script.Commit, Command: queue(command.Drop, "a")}, api.ErrForm},
		{script.Line{Kind: script.Snap, Queue: "a"}, api.ErrForm},
		{script.Line{Kind: script.Look, N: 1, Queue: "a", Most: 1, Command: queue(command.Drop, "a")}, api.ErrForm},
		{script.Line{Kind: script.Close, N: 1, Most: 1}, api.ErrForm},
		{script.Line{Kind: script.Fuse, From: 1}, api.ErrForm},
		{script.Line{Kind: script.Crash, Most: 1}, api.ErrForm},
		{script.Line{Kind: command.Drop, Command: queue(command.Purge, "a")}, api.ErrForm},
		{script.Line{Kind: command.Drop, Command: queue(command.Drop, "a"), N: 1}, api.ErrForm},
		{of(command.Command{Kind: command.Tick, ID: 1}), api.ErrForm},
		{of(queue(command.Drop, long)), api.ErrLong},
		{of(command.Command{Kind: command.Publish, Body: strings.Repeat("b", 1<<15+1)}), api.ErrLong},
	} {
		same(t, "a wrong line", h.Do(w.l), script.Answer{Err: w.want})
		alike(t, "what waits", h.Waiting, []command.Command{{Kind: command.Tick, Time: 1}})
		matches(t, "nothing is done", shown(t, h.Disk, h.Broker), was)
		is(t, "the broker", h.Broker == b, true)
	}
	done(t, h, "commit\n")
	is(t, "no fuse", h.Disk.Down(), false)
}

func TestCrash(t *testing.T) {
	h := started(t, 40)
	done(t, h, "declare \"a\" 0 0 0 \"\"\npublish \"\" \"a\" \"hi\" 0\ncommit\ndeliver \"a\" 1 9\ntick 3\ncommit\nsnap\n")
	is(t, "lent", h.Broker.Leases().Len(), 1)
	b, d := h.Broker, h.Disk
	same(t, "a crash", does(t, h, "drop \"a\"\ncrash\n"), script.Answer{})
	is(t, "none waits", len(h.Waiting), 0)
	is(t, "the same disk", h.Disk == d, true)
	is(t, "another broker", h.Broker != b, true)
	is(t, "all is ready", h.Broker.Leases().Len(), 0)
	is(t, "the clock", h.Broker.Clock(), 3)
	is(t, "no snapshot", len(h.Broker.Store().Snaps()), 0)
	same(t, "nothing was dropped", does(t, h, "deliver \"a\" 9 9\ncommit\n"), script.Answer{Replies: []broker.Reply{{List: []api.Message{{Queue: "a", ID: 1, Tries: 2, Body: "hi"}}}}})
}

// Wherever the power goes in a commit, what wasn't synced is lost: there is what was.
func TestFuse(t *testing.T) {
	begin := "declare \"a\" 0 0 0 \"\"\npublish \"\" \"a\" \"one\" 0\ncommit\n"
	batch := "publish \"\" \"a\" \"two\" 0\ntick 5\n"
	h := started(t, 40)
	done(t, h, begin)
	was := h.Disk.Steps()
	done(t, h, batch+"commit\n")
	steps := h.Disk.Steps() - was
	is(t, "there are some", steps > 3, true)
	for fuse := range steps {
		h := started(t, 40)
		done(t, h, begin)
		same(t, "fuse", h.Do(script.Line{Kind: script.Fuse, N: int64(fuse)}), script.Answer{})
		same(t, "the power went", does(t, h, batch+"commit\n"), script.Answer{Err: api.ErrPower, Replies: slices.Repeat([]broker.Reply{{Err: api.ErrPower}}, 2)})
		is(t, "it is gone", h.Disk.Down(), true)
		is(t, "none waits", len(h.Waiting), 0)
		same(t, "so are all batches", does(t, h, batch+"commit\n"), script.Answer{Err: api.ErrPower})
		same(t, "and snapshots", does(t, h, "snap\n"), script.Answer{Err: api.ErrPower})
		same(t, "a look", does(t, h, "look 1 \"a\" 0 0\n"), script.Answer{Err: api.ErrPower})
		same(t, "a close", does(t, h, "close 1\n"), script.Answer{Err: api.ErrPower})
		same(t, "a crash", does(t, h, batch+"crash\n"), script.Answer{})
		is(t, "none waits", len(h.Waiting), 0)
		same(t, "what was", does(t, h, "browse \"a\" 0 9\ncommit\n"), script.Answer{Replies: []broker.Reply{{List: []api.Message{{Queue: "a", ID: 1, Body: "one"}}}}})
		is(t, "the clock", h.Broker.Clock(), 0)
		done(t, h, batch+"commit\n") // the fuse is gone
	}
	for _, n := range []int64{-1, math.MinInt64, -1 << 32, math.MaxInt64, 1 << 32, int64(steps)} {
		h := started(t, 40)
		done(t, h, begin+"fuse 0\n")
		h.Do(script.Line{Kind: script.Fuse, N: n})
		done(t, h, batch+"commit\n")
	}
}

// A disk on which no broker can be opened anew keeps the old one.
func TestCrashWithoutABroker(t *testing.T) {
	h := started(t, 20)
	done(t, h, "declare \"a\" 0 0 0 \"\"\ncommit\ndeclare \"b\" 0 0 0 \"\"\ncommit\n")
	b := h.Broker
	is(t, "a page of the ledger's", h.Disk.Write(b.Store().Base().Pages[0], api.Page{}), api.OK)
	is(t, "it lasts", h.Disk.Sync(), api.OK)
	_, want := session.Open(h.Disk)
	is(t, "there is none", want != api.OK, true)
	same(t, "its error", does(t, h, "tick 1\ncrash\n"), script.Answer{Err: want})
	is(t, "the broker stays", h.Broker == b, true)
	is(t, "none waits", len(h.Waiting), 0)
	same(t, "and does what it can", does(t, h, "stat \"a\"\ncommit\n"), script.Answer{Replies: []broker.Reply{{}}})
}

// What waits is the shell's own: lists that were told, and other shells, don't change with it, whatever room they have to spare.
func TestWhatWaitsIsItsOwn(t *testing.T) {
	h := started(t, 40)
	tick := func(n uint64) command.Command { return command.Command{Kind: command.Tick, Time: n} }
	for n := range uint64(20) {
		was := slices.Clone(h.Waiting)
		told, other := h.Waiting, *h
		h.Do(of(tick(n)))
		other.Do(of(tick(100 + n)))
		alike(t, "what was told", told, was)
		alike(t, "what waits", h.Waiting, append(slices.Clone(was), tick(n)))
		alike(t, "what waits of a copy", other.Waiting, append(slices.Clone(was), tick(100+n)))
	}
	told, want := h.Waiting, slices.Clone(h.Waiting)
	done(t, h, "commit\ntick 99\ntick 98\n")
	alike(t, "behind a commit", told, want)
	room := make([]command.Command, 2, 9)
	room[0], room[1] = tick(1), tick(2)
	h.Waiting = room
	done(t, h, "tick 3\ncommit\n")
	alike(t, "its spare room", room[:9], append([]command.Command{tick(1), tick(2)}, make([]command.Command, 7)...))
}

// Answers are new memory.
func TestAnswersAreNew(t *testing.T) {
	h := started(t, 40)
	done(t, h, "declare \"a\" 0 0 0 \"\"\npublish \"\" \"a\" \"hi\" 0\npublish \"\" \"a\" \"ho\" 0\ncommit\nsnap\n")
	n := h.Broker.Store().Snaps()[0]
	look := script.Line{Kind: script.Look, N: int64(n), Queue: "a", Most: 9}
	a, b := h.Do(look), h.Do(look)
	a.List[0].Body = "other"
	_ = append(a.List[:1], api.Message{})
	is(t, "the other one", b.List[0].Body == "hi" && b.List[1].Body == "ho", true)
	same(t, "again", h.Do(look), b)
}
