package store_test

import (
	"math"
	"strconv"
	"testing"

	"taproot/api"
)

func TestNumbersOfSnapshots(t *testing.T) {
	_, s := made(t, 60)
	for n := 1; n <= 5; n++ {
		is(t, "its number", snapped(t, s), n)
	}
	list(t, "all", s.Snaps(), []int{1, 2, 3, 4, 5})
	for _, n := range []int{5, 2} {
		is(t, "Close", s.Close(n), api.OK)
		is(t, "Close of what is gone", s.Close(n), api.ErrHandle)
		v, e := s.Snapped(n)
		is(t, "Snapped of what is gone", v == nil && e == api.ErrHandle, true)
	}
	list(t, "those that are left", s.Snaps(), []int{1, 3, 4})
	is(t, "no number comes again", snapped(t, s), 6)
	list(t, "rising", s.Snaps(), []int{1, 3, 4, 6})
	for _, n := range []int{1, 3, 4, 6} {
		is(t, "Close", s.Close(n), api.OK)
	}
	list(t, "none is left", s.Snaps(), nil)
	is(t, "behind them all", snapped(t, s), 7)
}

func TestNoSuchSnapshot(t *testing.T) {
	_, s := made(t, 60)
	snapped(t, s)
	for _, n := range []int{0, 2, -1, math.MaxInt, math.MinInt} {
		v, e := s.Snapped(n)
		is(t, "Snapped", v == nil && e == api.ErrHandle, true)
		is(t, "Close", s.Close(n), api.ErrHandle)
	}
	list(t, "what is there stays", s.Snaps(), []int{1})
	is(t, "it isn't lost", s.Err(), api.OK)
}

func TestManySnapshots(t *testing.T) {
	_, s := made(t, 60)
	for n := 1; n <= 64; n++ {
		is(t, "its number", snapped(t, s), n)
	}
	for range 2 {
		n, e := s.Snap()
		is(t, "one too many", n == 0 && e == api.ErrSnaps, true)
	}
	is(t, "how many there are", len(s.Snaps()), 64)
	is(t, "Close", s.Close(30), api.OK)
	is(t, "what was refused has no number", snapped(t, s), 65)
	_, e := s.Snap()
	is(t, "one too many again", e, api.ErrSnaps)
	is(t, "it isn't lost", s.Err(), api.OK)
}

// A snapshot is of the base, whatever is open, and begun, and committed.
func TestSnapshotsStay(t *testing.T) {
	_, s := made(t, 200)
	want := map[int]map[string]string{snapped(t, s): {}}
	for i := range 20 {
		x := begun(t, s)
		put(t, x, "a", strconv.Itoa(i), "b", text(3000+i))
		if i%3 == 0 { // of what isn't committed it has nothing
			n := snapped(t, s)
			want[n] = map[string]string{}
			if i > 0 {
				want[n] = map[string]string{"a": strconv.Itoa(i - 1), "b": text(3000 + i - 1)}
			}
		}
		is(t, "Commit", s.Commit(0), api.OK)
		if i%5 == 0 {
			want[snapped(t, s)] = map[string]string{"a": strconv.Itoa(i), "b": text(3000 + i)}
		}
		for n, pairs := range want {
			tells(t, "a snapshot", view(t, s, n), pairs)
		}
		lasting(t, s)
	}
	is(t, "there are some", len(want), 12)
	is(t, "its number", view(t, s, 1).Tx(), 1)
	is(t, "the base's", s.Now().Tx(), 21)
}

// The oldest is the least of all that is read yet, the base too.
func TestOldest(t *testing.T) {
	_, s := made(t, 100)
	for tx := uint64(2); tx < 6; tx++ {
		commit(t, s, 0, "a", strconv.Itoa(int(tx)))
		is(t, "of the base alone", s.Oldest(), tx)
	}
	first := snapped(t, s) // of 5
	commit(t, s, 0, "a", "6")
	is(t, "of the snapshot", s.Oldest(), 5)
	second, third := snapped(t, s), snapped(t, s) // of 6
	commit(t, s, 0, "a", "7")
	is(t, "of the first one", s.Oldest(), 5)
	is(t, "Close", s.Close(first), api.OK)
	is(t, "of the next one", s.Oldest(), 6)
	is(t, "Close", s.Close(third), api.OK)
	is(t, "another one has it", s.Oldest(), 6)
	is(t, "Close", s.Close(second), api.OK)
	is(t, "of the base again", s.Oldest(), 7)
}

// Begin goes by the oldest: what a snapshot reads isn't free, and it is when that is closed.
func TestBeginGoesByTheOldest(t *testing.T) {
	_, s := made(t, 30)
	commit(t, s, 0, "a", text(20000)) // in 2 to 6, the leaf in another one
	n := snapped(t, s)
	x := begun(t, s)
	there, e := x.Cut("a")
	is(t, "Cut", there && e == api.OK, true)
	put(t, x, "b", "1")
	is(t, "Commit", s.Commit(0), api.OK)
	left := begun(t, s).Left()
	is(t, "Abort", s.Abort(), api.OK)
	is(t, "Close", s.Close(n), api.OK)
	is(t, "six pages more", begun(t, s).Left(), left+6)
}
