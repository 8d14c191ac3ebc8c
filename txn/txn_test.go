package txn_test

import (
	"maps"
	"math"
	"slices"
	"strconv"
	"testing"

	"taproot/api"
	"taproot/pager"
	"taproot/txn"
)

func TestExample(t *testing.T) {
	_, p, b := begun(t, 4)
	x := txn.Begin(p, b, 1)
	is(t, "its number", x.Tx(), 2)
	put(t, x, "a", "1")
	b = committed(t, p, x, 0)
	is(t, "its page", b.Root.Data, 2)
	is(t, "its root's number", b.Root.Tx, 2)
	has(t, txn.Look(p, b), "a", "1")
}

func TestWhatIsPutIsRead(t *testing.T) {
	_, p, b := begun(t, 100)
	b = based(t, p, b, "a", "old", "b", text(5000), "c", text(6000))
	y := txn.Begin(p, b, 2)
	want := map[string]string{"a": "old", "b": text(5000), "c": text(6000)}
	tells(t, "what the base has", y, want)
	hasnt(t, "no such key", y, "d", api.OK)
	for _, w := range []struct{ key, value string }{
		{"a", "new"}, {"b", text(5001)}, {"c", "short"}, {"a", text(401)}, {"a", text(400)}, {"", ""}, {x(255), text(65536)},
		{"d", text(4068)}, {"d", text(4069)}, {"d", text(4069)}, {"b", text(5000)}, {"\xff", "last"}, {"a\x00", "behind a"},
	} {
		put(t, y, w.key, w.value)
		want[w.key] = w.value
		tells(t, "behind a Put", y, want)
	}
	for _, key := range []string{"d", "", "b", x(255), "c"} {
		cut(t, y, key)
		delete(want, key)
		tells(t, "behind a Cut", y, want)
		there, e := y.Cut(key)
		is(t, "Cut of what isn't there", !there && e == api.OK, true)
		hasnt(t, "what was cut", y, key, api.OK)
	}
	there, e := y.Cut(x(300))
	is(t, "Cut of a key that is too long", !there && e == api.OK, true)
	goes(t, "within bounds", y.Range("a", "b"), api.OK, "a", text(400), "a\x00", "behind a")
	goes(t, "falling", y.Down("a\x00", ""), api.OK, "\xff", "last", "a\x00", "behind a")
	tells(t, "the base", txn.Look(p, b), map[string]string{"a": "old", "b": text(5000), "c": text(6000)})
	tells(t, "behind it all", txn.Look(p, committed(t, p, y, 0)), want)
}

func TestPutsThatAreRefused(t *testing.T) {
	_, p, b := begun(t, 60)
	b = based(t, p, b, "a", "1")
	y := txn.Begin(p, b, 2)
	left := y.Left()
	for _, w := range []struct{ key, value string }{{x(256), "v"}, {"a", text(65537)}, {x(256), text(65537)}} {
		is(t, "too long", y.Put(w.key, w.value), api.ErrLong)
	}
	is(t, "nothing is changed", y.Changed(), false)
	is(t, "nothing is taken", y.Left(), left)
	is(t, "it isn't dead", y.Err(), api.OK)
	tells(t, "what was there stays", y, map[string]string{"a": "1"})
	put(t, y, x(255), text(65536))
}

// What is given up goes back to the pool, if it is its own: the numbers are reckoned by hand.
func TestLeft(t *testing.T) {
	_, p, b := begun(t, 30)
	y := txn.Begin(p, b, 1)
	left := func(what string, want int) {
		t.Helper()
		is(t, what, y.Left(), want)
	}
	left("all but the roots", 28)
	put(t, y, "a", "1")
	left("a leaf", 27)
	put(t, y, "b", text(400))
	left("the same leaf", 27)
	put(t, y, "c", text(401))
	left("a chain", 26)
	put(t, y, "c", text(4068))
	left("another one instead of it", 26)
	put(t, y, "c", text(4069))
	left("a longer one", 25)
	put(t, y, "d", text(65536))
	left("seventeen pages", 8)
	put(t, y, "d", text(65535))
	left("as many, though so many weren't left", 8)
	put(t, y, "c", "short")
	left("no chain", 10)
	cut(t, y, "d")
	left("one less", 27)
	cut(t, y, "b")
	left("a leaf yet", 27)
	cut(t, y, "a")
	cut(t, y, "c")
	left("nothing", 28)
	is(t, "as if nothing had been", y.Changed(), false)
	put(t, y, "a", "1")
	put(t, y, "b", text(5000))
	b = committed(t, p, y, 0)
	y = txn.Begin(p, b, 2)
	left("all but three pages and the ledger's one", 24)
	put(t, y, "a", "1")
	left("a new leaf, and the base's stays", 23)
	cut(t, y, "b")
	left("the base's chain stays", 23)
	y.Abort()
	tells(t, "the base", txn.Look(p, b), map[string]string{"a": "1", "b": text(5000)})
}

func TestChanged(t *testing.T) {
	_, p, b := begun(t, 60)
	y := txn.Begin(p, b, 1)
	is(t, "nothing yet", y.Changed(), false)
	put(t, y, "a", "1")
	is(t, "a page of its own", y.Changed(), true)
	b = committed(t, p, y, 0)
	y = txn.Begin(p, b, 2)
	y.Get("a")
	for range y.Range("", "") {
	}
	y.Cut("b")
	y.Put(x(256), "")
	is(t, "nothing was changed", y.Changed(), false)
	put(t, y, "a", "1")
	is(t, "the same pair", y.Changed(), true)
	y = txn.Begin(p, b, 2)
	cut(t, y, "a")
	is(t, "one of the base's was given up, and none taken", y.Changed(), true)
	is(t, "none taken", y.Left(), 57)
	b = committed(t, p, y, 0)
	is(t, "an empty tree", b.Root.Data, 0)
	is(t, "the new one has changed nothing", txn.Begin(p, b, 3).Changed(), false)
}

func TestNumbers(t *testing.T) {
	_, p, b := begun(t, 20)
	for tx := uint64(2); tx < 10; tx++ {
		y := txn.Begin(p, b, b.Root.Tx)
		is(t, "its number", y.Tx(), tx)
		b = committed(t, p, y, 0)
		is(t, "the root's", b.Root.Tx, tx)
		is(t, "the place", b.Place, int(1-tx%2))
	}
	root := b.Root
	root.Tx = math.MaxUint64 - 1
	is(t, "Commit", p.Commit(root, 0), api.OK)
	b = committed(t, p, txn.Begin(p, loaded(t, p), root.Tx), 0)
	is(t, "the greatest", b.Root.Tx, math.MaxUint64)
	y := txn.Begin(p, b, math.MaxUint64)
	is(t, "behind the greatest there is none", y.Tx(), 0)
	put(t, y, "a", "1")
	got, e := y.Commit(1 << 40)
	is(t, "Commit", e, api.ErrRange)
	none(t, "Commit", got)
	_, e = y.Commit(1<<40 + 1)
	is(t, "a wrong clock goes ahead", e, api.ErrTime)
	is(t, "it isn't dead", y.Err(), api.OK)
	has(t, y, "a", "1")
	same(t, "nothing was written", loaded(t, p), b)
}

// dead wants all calls to answer that error, and to change nothing.
func dead(t *testing.T, what string, y *txn.Txn, want api.Errno) {
	t.Helper()
	is(t, what+": Err", y.Err(), want)
	hasnt(t, what, y, "a", want)
	goes(t, what+": Range", y.Range("", ""), want)
	goes(t, what+": Down", y.Down("", ""), want)
	is(t, what+": Put", y.Put("a", "2"), want)
	is(t, what+": Put of what is too long", y.Put(x(256), text(65537)), want)
	there, e := y.Cut("a")
	is(t, what+": Cut", !there && e == want, true)
	for _, clock := range []uint64{0, 1<<40 + 1} {
		b, e := y.Commit(clock)
		is(t, what+": Commit", e, want)
		none(t, what+": Commit", b)
	}
	is(t, what+": Err stays", y.Err(), want)
}

// ends is the error by which a row ends: nothing is beside it or behind it.
func ends(t *testing.T, row txn.Row) api.Errno {
	t.Helper()
	last := api.OK
	for x, e := range row {
		is(t, "nothing behind an error", last, api.OK)
		is(t, "beside the error", e == api.OK || x == api.Pair{}, true)
		last = e
	}
	return last
}

func TestDeadByAPage(t *testing.T) {
	for _, w := range []struct {
		what string
		do   func(y *txn.Txn) api.Errno
	}{
		{"Get", func(y *txn.Txn) api.Errno { _, _, e := y.Get("c"); return e }},
		{"Range", func(y *txn.Txn) api.Errno { return ends(t, y.Range("", "")) }},
		{"Down", func(y *txn.Txn) api.Errno { return ends(t, y.Down("", "")) }},
		{"Range, left there", func(y *txn.Txn) api.Errno {
			for _, e := range y.Range("c", "") {
				return e
			}
			return api.OK
		}},
		{"Put", func(y *txn.Txn) api.Errno { return y.Put("c", "new") }},
		{"Cut", func(y *txn.Txn) api.Errno {
			there, e := y.Cut("c")
			is(t, "Cut: beside the error", there, false)
			return e
		}},
	} {
		d, p, b := broken(t)
		y := txn.Begin(p, b, 3)
		is(t, w.what+": the error", w.do(y), api.ErrSum)
		spoilt(t, d, 3)
		dead(t, w.what, y, api.ErrSum)
		y.Abort()
		dead(t, w.what+", and Abort", y, api.ErrClosed)
		same(t, w.what+": what Load tells", loaded(t, p), b)
		spoilt(t, d, b.Root.Data)
		y = txn.Begin(p, b, 3)
		is(t, w.what+" of a broken leaf", w.do(y), api.ErrSum)
		dead(t, w.what+" of a broken leaf", y, api.ErrSum)
		y = txn.Begin(p, b, 3)
		d.Fuse(0)
		d.Sync()
		is(t, w.what+" without power", w.do(y), api.ErrPower)
		d.Crash(nil)
		dead(t, w.what+" without power", y, api.ErrPower)
	}
}

func TestFull(t *testing.T) {
	d, p, b := begun(t, 10)
	for _, w := range []struct {
		what string
		left int
		do   func(y *txn.Txn) api.Errno
	}{
		{"a chain", 0, func(y *txn.Txn) api.Errno { return y.Put("a", text(65536)) }},
		{"a chain that goes, and no leaf", 0, func(y *txn.Txn) api.Errno { return y.Put("a", text(4068*8)) }},
		{"many leaves", 0, func(y *txn.Txn) api.Errno {
			for i := range 99 {
				if e := y.Put(strconv.Itoa(i), text(400)); e != api.OK {
					return e
				}
			}
			return api.OK
		}},
	} {
		y := txn.Begin(p, b, 1)
		is(t, w.what, w.do(y), api.ErrFull)
		is(t, w.what+": no page is left", y.Left(), 0)
		dead(t, w.what, y, api.ErrFull)
		is(t, w.what+": nothing waits", len(d.Waits()), 0)
		y.Abort()
		same(t, w.what+": what Load tells", loaded(t, p), b)
	}
	y := txn.Begin(p, b, 1)
	put(t, y, "a", text(4068*7))
	is(t, "just as many as there are", y.Left(), 0)
	put(t, y, "b", "in the same leaf")
	tells(t, "both", txn.Look(p, committed(t, p, y, 0)), map[string]string{"a": text(4068 * 7), "b": "in the same leaf"})
}

// A ledger must be written, too: of four pages the second transaction finds none for it.
func TestFullForALedger(t *testing.T) {
	d, p, b := begun(t, 4)
	b = based(t, p, b, "a", "1")
	y := txn.Begin(p, b, 2)
	put(t, y, "a", "2")
	is(t, "none is left", y.Left(), 0)
	steps := d.Steps()
	_, e := y.Commit(1<<40 + 1)
	is(t, "a wrong clock goes ahead", e, api.ErrTime)
	is(t, "it isn't dead", y.Err(), api.OK)
	got, e := y.Commit(5)
	is(t, "Commit", e, api.ErrFull)
	none(t, "Commit", got)
	is(t, "nothing was written", d.Steps() == steps && len(d.Waits()) == 0, true)
	dead(t, "behind it", y, api.ErrFull)
	same(t, "what Load tells", loaded(t, p), b)
	has(t, txn.Look(p, b), "a", "1")
}

func TestNilAndEnded(t *testing.T) {
	_, p, b := begun(t, 20)
	var y *txn.Txn
	for _, y := range []*txn.Txn{y, txn.Begin(nil, b, 1)} {
		is(t, "nil: Put", y.Put("a", "1"), api.ErrNil)
		is(t, "nil: Put of what is too long", y.Put(x(256), text(65537)), api.ErrNil)
		there, e := y.Cut("a")
		is(t, "nil: Cut", !there && e == api.ErrNil, true)
		hasnt(t, "nil", y, "a", api.ErrNil)
		goes(t, "nil: Range", y.Range("", ""), api.ErrNil)
		goes(t, "nil: Down", y.Down("", ""), api.ErrNil)
		got, e := y.Commit(1<<40 + 1)
		is(t, "nil: Commit", e, api.ErrNil)
		none(t, "nil: Commit", got)
		is(t, "nil: Err", y.Err(), api.ErrClosed)
		is(t, "nil: Left", y.Left(), 0)
		is(t, "nil: Changed", y.Changed(), false)
		is(t, "nil: Tx", y.Tx(), 0)
		y.Abort()
	}
	y = txn.Begin(p, b, 1)
	row, falling := y.Range("", ""), y.Down("", "")
	put(t, y, "a", "1")
	goes(t, "what is there then", row, api.OK, "a", "1")
	b = committed(t, p, y, 0)
	goes(t, "a row of what was committed", row, api.ErrClosed)
	dead(t, "committed", y, api.ErrClosed)
	y.Abort()
	dead(t, "committed, and Abort", y, api.ErrClosed)
	goes(t, "falling", falling, api.ErrClosed)
	same(t, "nothing is changed", loaded(t, p), b)
	y = txn.Begin(p, b, 2)
	put(t, y, "a", "2")
	y.Abort()
	dead(t, "aborted", y, api.ErrClosed)
	same(t, "nothing is changed", loaded(t, p), b)
	has(t, txn.Look(p, b), "a", "1")
}

// many is a base of many pairs, and what it has.
func many(t *testing.T) (*pager.Pager, txn.Base, map[string]string) {
	t.Helper()
	_, p, b := begun(t, 900)
	y := txn.Begin(p, b, 1)
	want := map[string]string{"": "empty"}
	for i := range 300 {
		want[strconv.Itoa(i)] = text(i * 3)
	}
	all(t, y, want)
	return p, committed(t, p, y, 0), want
}

// all puts pairs.
func all(t *testing.T, y *txn.Txn, pairs map[string]string) {
	t.Helper()
	for _, key := range slices.Sorted(maps.Keys(pairs)) {
		put(t, y, key, pairs[key])
	}
}

// Rows stand what is done meanwhile: of what they give then nothing is promised, but they end, and the transaction stays whole.
func TestRowsOfWhatIsChanged(t *testing.T) {
	p, b, want := many(t)
	for what, change := range map[string]func(y *txn.Txn, key string){
		"Cut":         func(y *txn.Txn, key string) { cut(t, y, key) },
		"Cut of all":  func(y *txn.Txn, key string) { clean(y, want) },
		"Put":         func(y *txn.Txn, key string) { put(t, y, key, "new") },
		"Put of more": func(y *txn.Txn, key string) { put(t, y, key, text(1000)) },
		"Put of new":  func(y *txn.Txn, key string) { put(t, y, "new", text(1000)) },
	} {
		for _, down := range []bool{false, true} {
			for _, twice := range []bool{false, true} {
				y := txn.Begin(p, b, b.Root.Tx)
				if twice { // its pages are its own already
					all(t, y, want)
				}
				row := y.Range("", "")
				if down {
					row = y.Down("", "")
				}
				given := 0
				for x, e := range row {
					is(t, what+": an error", e, api.OK)
					change(y, x.Key)
					if given++; given > 400 {
						t.Fatalf("%s: the row doesn't end", what)
					}
				}
				is(t, what+": it isn't dead", y.Err(), api.OK)
				clean(y, want)
				y.Cut("new")
				tells(t, what+": all is cut", y, nil)
				y.Abort()
			}
		}
	}
}

// clean cuts keys.
func clean(y *txn.Txn, pairs map[string]string) {
	for _, key := range slices.Sorted(maps.Keys(pairs)) {
		y.Cut(key)
	}
}

func TestPutsWhileARowIsGoneThrough(t *testing.T) {
	p, b, want := many(t)
	y := txn.Begin(p, b, 2)
	for x, e := range y.Range("", "") {
		is(t, "an error", e, api.OK)
		if x.Key > "2" {
			put(t, y, x.Key, "new")
			want[x.Key] = "new"
		}
	}
	tells(t, "what was put meanwhile", txn.Look(p, committed(t, p, y, 0)), want)
}

// A row of a transaction that ends, or dies, while it is gone through, ends by that error.
func TestRowsOfWhatEnds(t *testing.T) {
	for what, w := range map[string]struct {
		end  func(y *txn.Txn)
		want api.Errno
	}{
		"Abort":  {func(y *txn.Txn) { y.Abort() }, api.ErrClosed},
		"Commit": {func(y *txn.Txn) { y.Commit(0) }, api.ErrClosed},
		"Put":    {func(y *txn.Txn) { y.Put("z", text(65536)) }, api.ErrFull},
	} {
		_, p, b := begun(t, 10)
		b = based(t, p, b, "a", "1", "b", "2")
		for _, down := range []bool{false, true} {
			y := txn.Begin(p, b, 2)
			row := y.Range("", "")
			if down {
				row = y.Down("", "")
			}
			var got []api.Errno
			for _, e := range row {
				got = append(got, e)
				if e == api.OK {
					w.end(y)
				}
			}
			list(t, what, got, []api.Errno{api.OK, w.want})
		}
	}
}

func TestWhatIsHandedInIsNotKept(t *testing.T) {
	_, p, b := begun(t, 60)
	b = based(t, p, b, "a", text(5000))
	b = based(t, p, b, "a", text(6000), "b", "2")
	b = based(t, p, b, "c", "3")
	is(t, "there are entries, and pages", len(b.Free) > 0 && len(b.Pages) > 0, true)
	mine := txn.Base{Root: b.Root, Place: b.Place, Free: slices.Clone(b.Free), Pages: slices.Clone(b.Pages)}
	y := txn.Begin(p, mine, 2)
	put(t, y, "d", text(20000))
	same(t, "what was handed in", mine, b)
	for i := range mine.Free {
		mine.Free[i] = entry{Tx: 9, Page: 9}
	}
	for i := range mine.Pages {
		mine.Pages[i] = 9
	}
	got, e := y.Commit(0)
	is(t, "Commit", e, api.OK)
	same(t, "what Load tells", loaded(t, p), got)
	whole(t, p, got)
	for i := range got.Free {
		got.Free[i].Page = 9
	}
	got.Pages[0] = 9
	whole(t, p, loaded(t, p))
}
