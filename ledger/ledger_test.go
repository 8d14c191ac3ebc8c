package ledger_test

import (
	"encoding/binary"
	"math"
	"math/rand/v2"
	"slices"
	"strconv"
	"testing"

	"taproot/api"
	"taproot/disk"
	"taproot/ledger"
	"taproot/meta"
	"taproot/page"
	"taproot/pager"
	"taproot/pool"
)

type entry = ledger.Entry

func is[T comparable](t *testing.T, what string, got, want T) {
	t.Helper()
	if got != want {
		t.Errorf("%s: %v, wanted %v", what, got, want)
	}
}

// list wants a list of just these things.
func list[T comparable](t *testing.T, what string, got, want []T) {
	t.Helper()
	is(t, what+": how many", len(got), len(want))
	for i := range min(len(got), len(want)) {
		if got[i] != want[i] {
			t.Fatalf("%s: %v in place %d, wanted %v", what, got[i], i, want[i])
		}
	}
}

// made is a disk, and a pager of it.
func made(t *testing.T, pages int) (*disk.Disk, *pager.Pager) {
	t.Helper()
	d, e := disk.New(pages)
	is(t, "disk.New", e, api.OK)
	return d, pager.New(d)
}

// saved are frames on the disk.
func saved(t *testing.T, p *pager.Pager, frames ...page.Frame) {
	t.Helper()
	for _, f := range frames {
		is(t, "Save", p.Save(f), api.OK)
	}
}

// put is a frame in a page in which a pager wouldn't save it.
func put(t *testing.T, d *disk.Disk, at uint32, f page.Frame) {
	t.Helper()
	sealed, e := page.Seal(f)
	is(t, "Seal", e, api.OK)
	is(t, "Write", d.Write(at, sealed), api.OK)
}

// rising are so many entries, of which some share a transaction, and some a page.
func rising(entries int) []entry {
	l := make([]entry, entries)
	for i := range l {
		l[i] = entry{Tx: uint64(i / 3), Page: uint32(2 + i%3)}
	}
	return l
}

// numbers are so many, from one on.
func numbers(from uint32, many int) []uint32 {
	l := make([]uint32, many)
	for i := range l {
		l[i] = from + uint32(i)
	}
	return l
}

// part is a ledger's frame, as the document tells it.
func part(id, next uint32, l ...entry) page.Frame {
	b := binary.BigEndian.AppendUint32(nil, next)
	for _, x := range l {
		b = binary.BigEndian.AppendUint64(b, x.Tx)
		b = binary.BigEndian.AppendUint32(b, x.Page)
	}
	return page.Frame{Kind: page.Free, Count: uint16(len(l)), ID: id, Tx: 9, Body: string(b)}
}

// refused wants an error of Frames, and no frames.
func refused(t *testing.T, what string, l []entry, ids []uint32, want api.Errno) {
	t.Helper()
	frames, e := ledger.Frames(l, ids, 9)
	is(t, what, e, want)
	is(t, what+": beside the error", len(frames), 0)
}

// reads wants a ledger's entries and its pages, each loaded once.
func reads(t *testing.T, what string, p *pager.Pager, first uint32, l []entry, ids ...uint32) {
	t.Helper()
	was := p.Count().Reads
	got, pages, e := ledger.Read(p, first)
	is(t, what, e, api.OK)
	list(t, what+": the entries", got, l)
	list(t, what+": its pages", pages, ids)
	is(t, what+": loaded", p.Count().Reads-was, len(ids))
}

// unread wants an error of Read, and nothing beside it.
func unread(t *testing.T, what string, p *pager.Pager, first uint32, want api.Errno) {
	t.Helper()
	l, ids, e := ledger.Read(p, first)
	is(t, what, e, want)
	is(t, what+": beside the error", len(l)+len(ids), 0)
}

func TestNeed(t *testing.T) {
	for entries, want := range map[int]int{
		math.MinInt: 0, -340: 0, -1: 0, 0: 0, 1: 1, 2: 1, 338: 1, 339: 1, 340: 2, 677: 2, 678: 2, 679: 3,
		339 * 1000: 1000, 339*1000 + 1: 1001, math.MaxInt: (math.MaxInt-1)/339 + 1,
	} {
		is(t, strconv.Itoa(entries), ledger.Need(entries), want)
	}
	is(t, "Per", ledger.Per, 339)
}

func TestFramesAreAsTold(t *testing.T) {
	for _, w := range []struct {
		entries int
		ids     []uint32
		counts  []int
	}{
		{0, nil, nil},
		{0, []uint32{2}, []int{0}},
		{0, []uint32{7, 4}, []int{0, 0}},
		{1, []uint32{math.MaxUint32}, []int{1}},
		{1, []uint32{5, 3, 4}, []int{1, 0, 0}},
		{338, []uint32{9}, []int{338}},
		{339, []uint32{9}, []int{339}},
		{339, []uint32{9, 10}, []int{339, 0}},
		{340, []uint32{9, 10}, []int{339, 1}},
		{678, []uint32{10, 9}, []int{339, 339}},
		{678, []uint32{10, 9, 11}, []int{339, 339, 0}},
		{679, []uint32{10, 9, 11}, []int{339, 339, 1}},
		{1000, []uint32{5, 6, 7, 8, 9}, []int{339, 339, 322, 0, 0}},
	} {
		what := strconv.Itoa(w.entries) + " in " + strconv.Itoa(len(w.ids))
		frames, e := ledger.Frames(rising(w.entries), w.ids, 9)
		is(t, what, e, api.OK)
		is(t, what+": how many", len(frames), len(w.ids))
		at := 0
		for i, f := range frames {
			var next uint32
			if i+1 < len(w.ids) {
				next = w.ids[i+1]
			}
			is(t, what+": frame "+strconv.Itoa(i), f, part(w.ids[i], next, rising(w.entries)[at:at+w.counts[i]]...))
			at += w.counts[i]
		}
	}
	frames, e := ledger.Frames([]entry{{Tx: 0x0102030405060708, Page: 0x090a0b0c}}, []uint32{3}, math.MaxUint64)
	is(t, "by hand", e, api.OK)
	is(t, "its frame", frames[0], page.Frame{Kind: page.Free, Count: 1, ID: 3, Tx: math.MaxUint64, Body: "\x00\x00\x00\x00\x01\x02\x03\x04\x05\x06\x07\x08\x09\x0a\x0b\x0c"})
}

func TestFramesThatAreRefused(t *testing.T) {
	refused(t, "no page", rising(1), nil, api.ErrArg)
	refused(t, "a page too few", rising(340), numbers(5, 1), api.ErrArg)
	refused(t, "two too few", rising(1000), numbers(5, 1), api.ErrArg)
	refused(t, "page 0", rising(1), []uint32{0}, api.ErrArg)
	refused(t, "page 1", rising(1), []uint32{1}, api.ErrArg)
	refused(t, "page 1 behind", rising(340), []uint32{7, 1}, api.ErrArg)
	refused(t, "page 0 that isn't needed", rising(1), []uint32{7, 8, 0}, api.ErrArg)
	refused(t, "page 1 without entries", nil, []uint32{1}, api.ErrArg)
	for _, l := range unordered() {
		what := "entries that don't rise: " + strconv.FormatUint(l[0].Tx, 10)
		refused(t, what, l, []uint32{7}, api.ErrOrder)
		refused(t, what+": behind a page too few", l, nil, api.ErrArg)
		refused(t, what+": behind page 1", l, []uint32{7, 1}, api.ErrArg)
	}
	long := rising(700)
	long[338], long[339] = long[339], long[338]
	refused(t, "from one page to the other", long, numbers(5, 3), api.ErrOrder)
	long = rising(700)
	long[699] = long[698]
	refused(t, "the last one", long, numbers(5, 3), api.ErrOrder)
	_, e := ledger.Frames([]entry{{0, 0}, {0, math.MaxUint32}, {1, 0}, {math.MaxUint64, 0}, {math.MaxUint64, 1}}, []uint32{7}, 9)
	is(t, "from end to end", e, api.OK)
}

// unordered are lists of entries that don't rise.
func unordered() [][]entry {
	return [][]entry{
		{{1, 5}, {1, 5}},
		{{2, 5}, {2, 4}},
		{{3, 5}, {2, 5}},
		{{4, 5}, {3, 6}},
		{{5, 1}, {6, 0}, {5, 2}},
		{{math.MaxUint64, 5}, {0, 5}},
		{{7, 5}, {7, 6}, {7, math.MaxUint32}, {7, 0}},
		{{8, 5}, {9, 5}, {9, 5}},
	}
}

func TestFramesChangeAndShareNothing(t *testing.T) {
	l, ids := append(rising(340), entry{77, 77}), []uint32{5, 6, 77}
	a, e := ledger.Frames(l[:340], ids[:2], 9)
	is(t, "Frames", e, api.OK)
	list(t, "the entries stay", l, append(rising(340), entry{77, 77}))
	list(t, "the pages stay", ids, []uint32{5, 6, 77})
	a[0].ID = 88
	b, _ := ledger.Frames(l[:340], ids[:2], 9)
	is(t, "the second answer", b[0].ID, 5)
}

func TestReads(t *testing.T) {
	_, p := made(t, 40)
	reads(t, "of none", p, 0, nil)
	for _, entries := range []int{0, 1, 2, 338, 339, 340, 678, 679, 10000} {
		for more := range 3 {
			ids := numbers(2, ledger.Need(entries)+more)
			slices.Reverse(ids)
			frames, e := ledger.Frames(rising(entries), ids, 9)
			is(t, "Frames", e, api.OK)
			saved(t, p, frames...)
			if len(ids) > 0 {
				reads(t, strconv.Itoa(entries)+" and more pages: "+strconv.Itoa(more), p, ids[0], rising(entries), ids...)
			}
		}
	}
}

func TestReadsOfPagesThatAreNotFull(t *testing.T) {
	d, p := made(t, 20)
	a, b, c := entry{0, 0}, entry{0, 1}, entry{1, 0}
	saved(t, p, part(7, 3, a), part(3, 9), part(9, 2, b, c), part(2, 0))
	reads(t, "from the first one", p, 7, []entry{a, b, c}, 7, 3, 9, 2)
	reads(t, "from the second one", p, 3, []entry{b, c}, 3, 9, 2)
	reads(t, "the last one", p, 2, nil, 2)
	saved(t, p, part(19, 1, a))
	put(t, d, 1, part(1, 0, b))
	reads(t, "a root's page, if it is of the kind Free", p, 19, []entry{a, b}, 19, 1)
}

func TestReadsOfALedgerOfAllPages(t *testing.T) {
	d, p := made(t, 4)
	put(t, d, 1, part(1, 3, entry{1, 1}))
	saved(t, p, part(3, 2, entry{1, 3}), part(2, 0, entry{2, 2}))
	reads(t, "three of four", p, 1, []entry{{1, 1}, {1, 3}, {2, 2}}, 1, 3, 2)
	_, p = made(t, api.MaxPages)
	ids := numbers(2, api.MaxPages-2)
	frames, e := ledger.Frames(rising(339*len(ids)), ids, 9)
	is(t, "Frames", e, api.OK)
	saved(t, p, frames...)
	reads(t, "as many as there may be", p, 2, rising(339*len(ids)), ids...)
}

func TestReadsThatEndByALoadsError(t *testing.T) {
	d, p := made(t, 20)
	unread(t, "no pager", nil, 2, api.ErrNil)
	unread(t, "a page of zeros", p, 2, api.ErrSum)
	unread(t, "beyond the disk", p, 20, api.ErrPage)
	unread(t, "far beyond", p, math.MaxUint32, api.ErrPage)
	for _, kind := range []uint8{page.Leaf, page.Branch, page.Chain} {
		f := part(2, 0)
		f.Kind = kind
		saved(t, p, f)
		unread(t, "another kind: "+strconv.Itoa(int(kind)), p, 2, api.ErrKind)
	}
	put(t, d, 2, part(3, 0))
	unread(t, "another page's number", p, 2, api.ErrPage)
	saved(t, p, part(2, 3, entry{1, 1}))
	unread(t, "the second one's", p, 2, api.ErrSum)
	saved(t, p, part(2, 20, entry{1, 1}))
	unread(t, "leads beyond the disk", p, 2, api.ErrPage)
	saved(t, p, part(2, 1, entry{1, 1}))
	is(t, "Commit", p.Commit(meta.First(), 1), api.OK)
	unread(t, "leads to a root", p, 2, api.ErrKind)
	d.Fuse(0)
	d.Sync()
	unread(t, "without power", p, 2, api.ErrPower)
	reads(t, "of none nothing is loaded, without power", p, 0, nil)
	reads(t, "nor without a pager", nil, 0, nil)
}

func TestReadsOfAWrongForm(t *testing.T) {
	_, p := made(t, 20)
	whole := part(2, 0, rising(339)...)
	for _, w := range []struct {
		what  string
		count int
		long  int
	}{
		{"no body", 0, 0},
		{"a body of three bytes", 0, 3},
		{"a byte too many", 0, 5},
		{"an entry too many", 0, 16},
		{"an entry too few", 1, 4},
		{"a byte too few", 1, 15},
		{"a byte behind", 1, 17},
		{"two of three", 3, 28},
		{"three of two", 2, 40},
		{"a full one of one less", 338, 4072},
		{"a full one of one more", 340, 4072},
		{"a full one that lacks a byte", 339, 4071},
		{"a count of 2^16 - 1", math.MaxUint16, 4072},
		{"a count whose bytes are 4 modulo 2^16", 16384, 4},
		{"a count far above", 1 << 15, 4},
	} {
		f := whole
		f.Count, f.Body = uint16(w.count), whole.Body[:w.long]
		saved(t, p, f)
		unread(t, w.what, p, 2, api.ErrForm)
		f.ID = 3
		saved(t, p, f, part(2, 3))
		unread(t, w.what+", as the second one", p, 2, api.ErrForm)
	}
	saved(t, p, whole)
	reads(t, "a full one", p, 2, rising(339), 2)
}

func TestReadsThatLeadBack(t *testing.T) {
	_, p := made(t, 8)
	saved(t, p, part(2, 2))
	unread(t, "to itself", p, 2, api.ErrForm)
	saved(t, p, part(2, 3), part(3, 2))
	unread(t, "to the first one", p, 2, api.ErrForm)
	saved(t, p, part(4, 2, entry{1, 1}))
	unread(t, "to the second one", p, 4, api.ErrForm)
	saved(t, p, part(5, 4), part(4, 5, entry{1, 1}))
	unread(t, "to an entry", p, 5, api.ErrOrder)
	saved(t, p, part(2, 3), part(3, 4), part(4, 5), part(5, 6), part(6, 2, entry{1, 1}))
	unread(t, "an entry again behind ten pages of eight", p, 2, api.ErrForm)
	unread(t, "in the ninth", p, 3, api.ErrForm)
	unread(t, "in the eighth", p, 4, api.ErrOrder)
	unread(t, "in the seventh", p, 5, api.ErrOrder)
}

func TestReadsOfEntriesThatDoNotRise(t *testing.T) {
	_, p := made(t, 20)
	for _, l := range unordered() {
		what := strconv.FormatUint(l[0].Tx, 10)
		saved(t, p, part(2, 0, l...))
		unread(t, what+" in one page", p, 2, api.ErrOrder)
		last := len(l) - 1
		saved(t, p, part(2, 3, l[:last]...), part(3, 0, l[last:]...))
		unread(t, what+" from page to page", p, 2, api.ErrOrder)
		saved(t, p, part(2, 4, l[:last]...), part(4, 5), part(5, 3))
		unread(t, what+" over pages without entries", p, 2, api.ErrOrder)
	}
}

func TestWhichErrorOfReadIsFirst(t *testing.T) {
	_, p := made(t, 20)
	falls, wrong := []entry{{2, 2}, {1, 1}}, part(3, 0)
	wrong.Count = 1
	saved(t, p, part(2, 3, falls...), wrong)
	unread(t, "an order ahead of a form behind", p, 2, api.ErrOrder)
	saved(t, p, part(2, 19, falls...))
	unread(t, "an order ahead of a Load behind", p, 2, api.ErrOrder)
	both := part(2, 3, falls...)
	both.Count = 3
	saved(t, p, both, part(3, 0))
	unread(t, "a form ahead of the same page's order", p, 2, api.ErrForm)
	saved(t, p, part(2, 3), wrong)
	unread(t, "a form", p, 2, api.ErrForm)
	wrong.ID = 2
	saved(t, p, wrong, part(3, 0, falls...))
	unread(t, "a form ahead of an order behind", p, 2, api.ErrForm)
	wrong.Kind = page.Chain
	saved(t, p, wrong)
	unread(t, "a Load ahead of the same page's form", p, 2, api.ErrKind)
}

func TestReadsShareNothing(t *testing.T) {
	_, p := made(t, 20)
	saved(t, p, part(2, 3, entry{1, 1}), part(3, 0, entry{2, 2}))
	l, ids, _ := ledger.Read(p, 2)
	l[0].Tx, ids[0] = 77, 77
	reads(t, "the second answer", p, 2, []entry{{1, 1}, {2, 2}}, 2, 3)
}

func TestSort(t *testing.T) {
	for _, w := range []struct {
		what    string
		l, want []entry
	}{
		{"none", nil, nil},
		{"one", []entry{{5, 5}}, []entry{{5, 5}}},
		{"by the transaction ahead of the page", []entry{{2, 1}, {1, 2}}, []entry{{1, 2}, {2, 1}}},
		{"by the page, too", []entry{{1, 3}, {1, 2}, {1, math.MaxUint32}, {1, 0}}, []entry{{1, 0}, {1, 2}, {1, 3}, {1, math.MaxUint32}}},
		{"each once", []entry{{2, 2}, {1, 1}, {2, 2}, {1, 1}, {1, 1}}, []entry{{1, 1}, {2, 2}}},
		{"a page of two transactions", []entry{{2, 7}, {1, 7}, {2, 7}}, []entry{{1, 7}, {2, 7}}},
		{"ends", []entry{{math.MaxUint64, 0}, {0, math.MaxUint32}, {1 << 63, 1}, {0, 0}}, []entry{{0, 0}, {0, math.MaxUint32}, {1 << 63, 1}, {math.MaxUint64, 0}}},
	} {
		room := append(slices.Clone(w.l), entry{77, 77})
		got := ledger.Sort(room[:len(w.l)])
		list(t, w.what, got, w.want)
		list(t, w.what+": what was handed in stays", room, append(slices.Clone(w.l), entry{77, 77}))
		if len(got) > 0 {
			got[0] = entry{88, 88}
			list(t, w.what+": and shares nothing", room, append(slices.Clone(w.l), entry{77, 77}))
		}
	}
}

func TestMay(t *testing.T) {
	l := []entry{{1, 9}, {3, 2}, {3, 5}, {4, 7}, {math.MaxUint64, 8}}
	for oldest, want := range map[uint64][]uint32{
		0: nil, 1: {9}, 2: {9}, 3: {9, 2, 5}, 4: {9, 2, 5, 7}, 5: {9, 2, 5, 7},
		math.MaxUint64 - 1: {9, 2, 5, 7}, math.MaxUint64: {9, 2, 5, 7, 8},
	} {
		list(t, strconv.FormatUint(oldest, 10), ledger.May(l, oldest), want)
	}
	list(t, "none", ledger.May(nil, math.MaxUint64), nil)
	list(t, "of transaction 0", ledger.May([]entry{{0, 3}, {1, 4}}, 0), []uint32{3})
	list(t, "as they stand", ledger.May([]entry{{5, 1}, {2, 9}, {1, 3}, {2, 9}}, 2), []uint32{9, 3, 9})
	list(t, "what was handed in stays", l, []entry{{1, 9}, {3, 2}, {3, 5}, {4, 7}, {math.MaxUint64, 8}})
}

// reserved wants what is left of entries, and pages.
func reserved(t *testing.T, what string, l []entry, from *pool.Pool, left []entry, ids ...uint32) {
	t.Helper()
	room := append(slices.Clone(l), entry{77, 77})
	got, pages, e := ledger.Reserve(room[:len(l)], from)
	is(t, what, e, api.OK)
	list(t, what+": what is left", got, left)
	list(t, what+": the pages", pages, ids)
	for i := range got {
		got[i] = entry{88, 88}
	}
	list(t, what+": what was handed in stays", room, append(slices.Clone(l), entry{77, 77}))
}

// unreserved wants an error of Reserve, nothing beside it, and these pages taken.
func unreserved(t *testing.T, what string, l []entry, from *pool.Pool, want api.Errno, taken ...uint32) {
	t.Helper()
	left, ids, e := ledger.Reserve(l, from)
	is(t, what, e, want)
	is(t, what+": beside the error", len(left)+len(ids), 0)
	list(t, what+": stays taken", slices.Collect(from.Taken()), taken)
}

// given are entries of so many pages from one on, each given up by a transaction of its own.
func given(first uint32, many int) []entry {
	l := make([]entry, many)
	for i := range l {
		l[i] = entry{Tx: uint64(i), Page: first + uint32(i)}
	}
	return l
}

func TestReserve(t *testing.T) {
	reserved(t, "for none", nil, pool.New([]uint32{5}, 9, 20), nil)
	reserved(t, "for none of a full pool", nil, pool.New(nil, 20, 20), nil)
	reserved(t, "for none of no pool", nil, nil, nil)
	reserved(t, "for one, of the mark", given(3, 1), pool.New(nil, 9, 20), given(3, 1), 9)
	reserved(t, "for one, of what is free", given(3, 1), pool.New([]uint32{7, 5}, 9, 20), given(3, 1), 5)
	reserved(t, "its own entry", given(5, 1), pool.New([]uint32{7, 5}, 9, 20), nil, 5)
	reserved(t, "one of three", given(4, 3), pool.New([]uint32{5, 8}, 9, 20), []entry{{0, 4}, {2, 6}}, 5)
	reserved(t, "for 339", given(100, 339), pool.New([]uint32{5, 6}, 9, 20), given(100, 339), 5)
	reserved(t, "for 340", given(100, 340), pool.New([]uint32{6, 5}, 9, 20), given(100, 340), 5, 6)
	reserved(t, "for 679", given(100, 679), pool.New([]uint32{6}, 9, 20), given(100, 679), 6, 9, 10)
	reserved(t, "for 340 of which one is taken", given(100, 340), pool.New([]uint32{100, 101}, 900, 2000), given(100, 340)[1:], 100)
	reserved(t, "for 341 of which two are taken", given(100, 341), pool.New([]uint32{100, 101, 102}, 900, 2000), given(100, 341)[2:], 100, 101)
	reserved(t, "for 340 of which the second is taken", given(100, 340), pool.New([]uint32{50, 101, 102}, 900, 2000), slices.Delete(given(100, 340), 1, 2), 50, 101)
	reserved(t, "in the entries' order", []entry{{9, 9}, {3, 5}, {7, 4}, {1, 8}}, pool.New([]uint32{5}, 9, 20), []entry{{9, 9}, {7, 4}, {1, 8}}, 5)
	reserved(t, "a page of two entries", []entry{{1, 5}, {2, 5}, {2, 6}}, pool.New([]uint32{5, 6}, 9, 20), []entry{{2, 6}}, 5)
}

func TestReserveTakesOfThePool(t *testing.T) {
	from := pool.New([]uint32{5, 7}, 9, 11)
	from.Take()
	reserved(t, "behind what was taken ahead", given(100, 340), from, given(100, 340), 7, 9)
	list(t, "what is taken", slices.Collect(from.Taken()), []uint32{5, 7, 9})
	is(t, "what is left", from.Left(), 1)
	is(t, "the mark", from.High(), 10)
}

func TestReserveOfTooFewPages(t *testing.T) {
	unreserved(t, "no pool", given(3, 1), nil, api.ErrNil)
	unreserved(t, "none", given(3, 1), pool.New(nil, 9, 9), api.ErrFull)
	unreserved(t, "one of two", given(100, 340), pool.New([]uint32{5}, 9, 9), api.ErrFull, 5)
	unreserved(t, "two of three", given(100, 679), pool.New([]uint32{5}, 9, 10), api.ErrFull, 5, 9)
	reserved(t, "one that is enough, for its entry is left out", given(100, 340), pool.New([]uint32{439}, 900, 900), given(100, 339), 439)
}

// reserve is Reserve, as the document tells it, with the pool's row of pages told ahead.
func reserve(l []entry, row []uint32) ([]entry, []uint32) {
	for n := 0; ; n++ {
		left := []entry{}
		for _, x := range l {
			if !slices.Contains(row[:n], x.Page) {
				left = append(left, x)
			}
		}
		if 339*n >= len(left) {
			return left, row[:n]
		}
	}
}

func TestWhatWasReservedIsEnoughAndReadAgain(t *testing.T) {
	chance := rand.New(rand.NewPCG(14, 1))
	for range 400 {
		const pages, high = 2048, 1500
		var l []entry
		var free []uint32
		for _, at := range chance.Perm(high - 2)[:chance.IntN(1300)] {
			l = append(l, entry{Tx: chance.Uint64N(20), Page: uint32(at + 2)})
			if chance.IntN(3) > 0 {
				free = append(free, uint32(at+2))
			}
		}
		l = ledger.Sort(l)
		row := slices.Sorted(slices.Values(free))
		row = append(row, numbers(high, pages-high)...)
		want, wantIDs := reserve(l, row)
		left, ids, e := ledger.Reserve(l, pool.New(free, high, pages))
		is(t, "Reserve", e, api.OK)
		list(t, "what is left", left, want)
		list(t, "the pages", ids, wantIDs)
		over := len(ids) - ledger.Need(len(left))
		is(t, "enough, and at most one more", over == 0 || over == 1, true)
		is(t, "none of them is an entry's", slices.ContainsFunc(left, func(x entry) bool { return slices.Contains(ids, x.Page) }), false)
		again(t, chance, left, ids)
	}
}

// again wants what was written to be read.
func again(t *testing.T, chance *rand.Rand, l []entry, ids []uint32) {
	t.Helper()
	_, p := made(t, 2048)
	frames, e := ledger.Frames(l, ids, chance.Uint64())
	is(t, "Frames", e, api.OK)
	for _, at := range chance.Perm(len(frames)) {
		saved(t, p, frames[at])
	}
	var first uint32
	if len(ids) > 0 {
		first = ids[0]
	}
	reads(t, "what was written", p, first, l, ids...)
}

func TestWhatMayBeTakenAgainByChance(t *testing.T) {
	chance := rand.New(rand.NewPCG(14, 2))
	for range 300 {
		l := make([]entry, chance.IntN(60))
		there := map[entry]bool{}
		for i := range l {
			l[i] = entry{Tx: chance.Uint64N(8), Page: chance.Uint32N(8)}
			there[l[i]] = true
		}
		sorted := ledger.Sort(l)
		is(t, "each once", len(sorted), len(there))
		for i, x := range sorted {
			is(t, "one of them", there[x], true)
			if i > 0 {
				was := sorted[i-1]
				is(t, "rising", was.Tx < x.Tx || was.Tx == x.Tx && was.Page < x.Page, true)
			}
		}
		oldest := chance.Uint64N(9)
		var want []uint32
		for _, x := range l {
			if x.Tx <= oldest {
				want = append(want, x.Page)
			}
		}
		list(t, "May", ledger.May(l, oldest), want)
	}
}
