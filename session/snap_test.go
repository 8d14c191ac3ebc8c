package session_test

import (
	"fmt"
	"math"
	"strings"
	"testing"

	"taproot/api"
	"taproot/command"
	"taproot/schema"
	"taproot/session"
)

// look wants to see those through a snapshot.
func look(t *testing.T, b *session.Broker, n int, queue string, from uint64, most int, want ...api.Message) {
	t.Helper()
	l, e := b.Browse(n, queue, from, most)
	is(t, "Browse", e, api.OK)
	alike(t, "Browse", l, want)
}

// fails wants a look to fail.
func fails(t *testing.T, b *session.Broker, n int, queue string, from uint64, most int, want api.Errno) {
	t.Helper()
	l, e := b.Browse(n, queue, from, most)
	is(t, "Browse", e, want)
	is(t, "no messages", len(l), 0)
}

func TestBrowse(t *testing.T) {
	_, b := fresh(t, 60, declare("a"), declare("aa"), declare("none"))
	var l []api.Message
	for id := uint64(1); id <= 70; id += 2 { // a has those of odd numbers, and aa the others
		l = append(l, letter("a", id, 0, fmt.Sprint("body ", id)))
		did(t, b, to("a", l[len(l)-1].Body), to("aa", "other"))
	}
	n, e := b.Snap()
	is(t, "Snap", n == 1 && e == api.OK, true)
	look(t, b, n, "a", 0, 1, l[0])
	look(t, b, n, "a", 1, 3, l[:3]...)
	look(t, b, n, "a", 2, 2, l[1:3]...)
	look(t, b, n, "a", 0, 32, l[:32]...)
	look(t, b, n, "a", 67, 32, l[33:]...)
	look(t, b, n, "a", 69, 1, l[34])
	look(t, b, n, "a", 70, 32)
	look(t, b, n, "a", math.MaxUint64, 32)
	look(t, b, n, "none", 0, 32)
	look(t, b, n, "aa", 70, 32, letter("aa", 70, 0, "other"))
}

func TestBrowseFails(t *testing.T) {
	_, b := fresh(t, 60, declare("a"), to("a", "hi"))
	n, _ := b.Snap()
	for _, most := range []int{0, 33, -1, math.MaxInt, math.MinInt} {
		for _, number := range []int{0, 2, -1, math.MaxInt, math.MinInt} {
			fails(t, b, number, "a", 0, most, api.ErrHandle)
			fails(t, b, number, "none", 0, 1, api.ErrHandle)
		}
		for _, queue := range []string{"none", "", "A", "a.b", strings.Repeat("a", 33), strings.Repeat("a", 300), strings.Repeat("\x00", 200)} {
			fails(t, b, n, queue, 0, most, api.ErrNone)
			fails(t, b, n, queue, 0, 1, api.ErrNone)
		}
		fails(t, b, n, "a", 0, most, api.ErrArg)
		fails(t, b, n, "a", 99, most, api.ErrArg)
	}
	look(t, b, n, "a", 0, 1, letter("a", 1, 0, "hi"))
}

// What stands under a queue's or a message's key and isn't one is layer 19's error.
func TestBrowseOfBrokenPairs(t *testing.T) {
	_, b := fresh(t, 60, declare("a"), to("a", "one"), to("a", "two"), to("a", "three"))
	x, _ := b.Store().Begin()
	second, _ := schema.Message("a", 2)
	queue, _ := schema.Queue("broken")
	is(t, "Put", x.Put(second, "\x01"), api.OK)
	is(t, "Put", x.Put(queue, "\x01"), api.OK)
	is(t, "Commit", b.Store().Commit(0), api.OK)
	n, _ := b.Snap()
	look(t, b, n, "a", 0, 1, letter("a", 1, 0, "one")) // none is looked at that isn't told
	fails(t, b, n, "a", 0, 2, api.ErrShort)
	fails(t, b, n, "a", 2, 1, api.ErrShort)
	look(t, b, n, "a", 3, 9, letter("a", 3, 0, "three"))
	fails(t, b, n, "broken", 0, 1, api.ErrShort)
	fails(t, b, n, "broken", 0, 0, api.ErrShort)
}

func TestSnapsAreTheStores(t *testing.T) {
	_, b := fresh(t, 60, declare("a"))
	for want := 1; want <= 64; want++ {
		n, e := b.Snap()
		is(t, "Snap", n == want && e == api.OK, true)
	}
	n, e := b.Snap()
	is(t, "one too many", n == 0 && e == api.ErrSnaps, true)
	is(t, "Close", b.Close(9), api.OK)
	for _, n := range []int{9, 0, 65, -1, math.MaxInt} {
		is(t, "Close of none", b.Close(n), api.ErrHandle)
		fails(t, b, n, "a", 0, 1, api.ErrHandle)
	}
	n, e = b.Snap()
	is(t, "Snap", n == 65 && e == api.OK, true)
	own, e := b.Store().Snap()
	is(t, "of the store's", own == 0 && e == api.ErrSnaps, true)
	is(t, "closed by the store", b.Store().Close(65), api.OK)
	fails(t, b, 65, "a", 0, 1, api.ErrHandle)
}

// A snapshot tells what was, whatever is committed; what is lent is no matter of it.
func TestSnapshotStays(t *testing.T) {
	_, b := fresh(t, 90, declare("a"), to("a", "one"), to("a", strings.Repeat("long", 2000)), deliver("a", 1, 5))
	first, long := letter("a", 1, 1, "one"), letter("a", 2, 0, strings.Repeat("long", 2000))
	n, _ := b.Snap()
	for _, l := range [][]command.Command{
		{ack("a", 1, 1)}, {to("a", strings.Repeat("more", 3000))}, {deliver("a", 9, 5)}, {purge("a")}, {drop("a")}, {declare("a"), to("a", "new"), tick(9)},
	} {
		did(t, b, l...)
		look(t, b, n, "a", 0, 9, first, long)
		lasting(t, "beside a snapshot", b)
	}
	last, _ := b.Snap()
	look(t, b, last, "a", 0, 9, letter("a", 4, 0, "new"))
	is(t, "Close", b.Close(n), api.OK)
	look(t, b, last, "a", 0, 9, letter("a", 4, 0, "new"))

	_, e := b.Batch([]command.Command{purge("a"), drop("none")})
	is(t, "not committed", e, api.ErrNone)
	look(t, b, last, "a", 0, 9, letter("a", 4, 0, "new"))
}

// Behind an Open there are no snapshots.
func TestSnapshotsGoWithTheBroker(t *testing.T) {
	d, b := fresh(t, 60, declare("a"))
	n, _ := b.Snap()
	b = opened(t, d)
	fails(t, b, n, "a", 0, 1, api.ErrHandle)
	is(t, "Close", b.Close(n), api.ErrHandle)
	n, e := b.Snap()
	is(t, "numbers begin again", n == 1 && e == api.OK, true)
}
