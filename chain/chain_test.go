package chain_test

import (
	"encoding/binary"
	"math"
	"math/rand/v2"
	"slices"
	"strconv"
	"strings"
	"testing"

	"taproot/api"
	"taproot/chain"
	"taproot/disk"
	"taproot/page"
	"taproot/pager"
)

func is[T comparable](t *testing.T, what string, got, want T) {
	t.Helper()
	if got != want {
		t.Errorf("%s: %v, wanted %v", what, got, want)
	}
}

// made is a disk, and a pager of it.
func made(t *testing.T, pages int) (*disk.Disk, *pager.Pager) {
	t.Helper()
	d, e := disk.New(pages)
	is(t, "disk.New", e, api.OK)
	return d, pager.New(d)
}

// text is one of so many bytes, no two pieces of which are the same.
func text(long int) string {
	b := make([]byte, long)
	for i := range b {
		b[i] = byte(i*7 + i/256)
	}
	return string(b)
}

// link is a chain's frame, as the document tells it.
func link(id uint32, ahead uint16, next uint32, piece string) page.Frame {
	return page.Frame{Kind: page.Chain, Count: ahead, ID: id, Tx: 9, Body: string(binary.BigEndian.AppendUint32(nil, next)) + piece}
}

// saved are frames on the disk.
func saved(t *testing.T, p *pager.Pager, frames ...page.Frame) {
	t.Helper()
	for _, f := range frames {
		is(t, "Save", p.Save(f), api.OK)
	}
}

// refused wants an error of Frames, and no frames.
func refused(t *testing.T, what string, ids []uint32, value string, want api.Errno) {
	t.Helper()
	frames, e := chain.Frames(ids, 9, value)
	is(t, what, e, want)
	is(t, what+": beside the error", len(frames), 0)
}

// reads wants a value and its pages.
func reads(t *testing.T, what string, p *pager.Pager, first uint32, want string, ids ...uint32) {
	t.Helper()
	value, got, e := chain.Read(p, first, len(want))
	is(t, what, e, api.OK)
	is(t, what+": the value", value == want, true)
	is(t, what+": its pages", slices.Equal(got, ids), true)
}

// unread wants an error of Read, nothing beside it, and so many pages loaded.
func unread(t *testing.T, what string, p *pager.Pager, first uint32, long int, want api.Errno, loads int) {
	t.Helper()
	was := p.Count().Reads
	value, ids, e := chain.Read(p, first, long)
	is(t, what, e, want)
	is(t, what+": beside the error", value == "" && len(ids) == 0, true)
	is(t, what+": loaded", p.Count().Reads-was, loads)
}

// goes wants a row of frames, then an error, if it isn't OK.
func goes(t *testing.T, what string, p *pager.Pager, first uint32, want api.Errno, frames ...page.Frame) {
	t.Helper()
	row := chain.Pages(p, first)
	for range 2 { // a row may be gone through again
		var got []page.Frame
		last := api.OK
		for f, e := range row {
			is(t, what+": nothing behind an error", last, api.OK)
			last = e
			if e == api.OK {
				got = append(got, f)
			} else {
				is(t, what+": beside the error", f, page.Frame{})
			}
		}
		is(t, what, last, want)
		is(t, what+": the frames", slices.Equal(got, frames), true)
	}
}

func TestNeed(t *testing.T) {
	for long, want := range map[int]int{
		math.MinInt: 1, -4069: 1, -1: 1, 0: 1, 1: 1, 4067: 1, 4068: 1, 4069: 2, 8135: 2, 8136: 2, 8137: 3,
		65088: 16, 65089: 17, 65536: 17, 4068 * 1000: 1000, 4068*1000 + 1: 1001, math.MaxInt: (math.MaxInt-1)/4068 + 1, math.MaxInt - 1: (math.MaxInt-2)/4068 + 1,
	} {
		is(t, strconv.Itoa(long), chain.Need(long), want)
	}
	is(t, "Piece", chain.Piece, 4068)
}

func TestFramesAreAsTold(t *testing.T) {
	for _, w := range []struct {
		long int
		ids  []uint32
	}{
		{0, []uint32{2}},
		{1, []uint32{math.MaxUint32}},
		{4068, []uint32{7}},
		{4069, []uint32{7, 2}},
		{8136, []uint32{5, 3}},
		{8137, []uint32{5, 3, 4}},
		{9000, []uint32{5, 5, 5}}, // whether they are different isn't asked
	} {
		value, ids := text(w.long), append(slices.Clone(w.ids), 77)[:len(w.ids)]
		frames, e := chain.Frames(ids, 9, value)
		is(t, "Frames", e, api.OK)
		is(t, "how many", len(frames), len(w.ids))
		for i, f := range frames {
			next := uint32(0)
			if i+1 < len(w.ids) {
				next = w.ids[i+1]
			}
			is(t, "frame "+strconv.Itoa(i)+" of "+strconv.Itoa(w.long), f, link(w.ids[i], uint16(i), next, value[4068*i:min(4068*i+4068, w.long)]))
		}
		is(t, "what was handed in stays", slices.Equal(ids, w.ids) && ids[:len(ids)+1][len(ids)] == 77, true)
	}
	frames, e := chain.Frames([]uint32{3}, math.MaxUint64, "a")
	is(t, "the greatest transaction", e, api.OK)
	is(t, "its frame", frames[0], page.Frame{Kind: page.Chain, ID: 3, Tx: math.MaxUint64, Body: "\x00\x00\x00\x00a"})
}

func TestFramesThatAreRefused(t *testing.T) {
	many := make([]uint32, 20)
	for i := range many {
		many[i] = uint32(i + 2)
	}
	refused(t, "no page", nil, "", api.ErrArg)
	refused(t, "a page too few", many[:1], text(4069), api.ErrArg)
	refused(t, "a page too many", many[:2], text(4068), api.ErrArg)
	refused(t, "a page too many of none", many[:2], "", api.ErrArg)
	refused(t, "page 0", []uint32{0}, "a", api.ErrArg)
	refused(t, "page 1", []uint32{1}, "a", api.ErrArg)
	refused(t, "page 1 behind", []uint32{9, 1}, text(5000), api.ErrArg)
	refused(t, "page 0 last", []uint32{9, 8, 0}, text(9000), api.ErrArg)
	refused(t, "a byte too many", many[:17], text(65537), api.ErrLong)
	refused(t, "that goes ahead of the pages' count", nil, text(65537), api.ErrLong)
	refused(t, "and of their numbers", make([]uint32, 17), text(65537), api.ErrLong)
	_, e := chain.Frames(many[:17], 9, text(65536))
	is(t, "as many as may be", e, api.OK)
	_, e = chain.Frames(many[:16], 9, text(65088))
	is(t, "as many as sixteen have", e, api.OK)
	refused(t, "one of these", many[:16], text(65089), api.ErrArg)
}

func TestFramesShareNothing(t *testing.T) {
	a, _ := chain.Frames([]uint32{2, 3}, 9, text(5000))
	a[0].ID = 77
	b, _ := chain.Frames([]uint32{2, 3}, 9, text(5000))
	is(t, "the second answer", b[0].ID, 2)
}

func TestPagesOfAChain(t *testing.T) {
	_, p := made(t, 20)
	a, b, c := link(7, 0, 3, text(4068)), link(3, 1, 9, "short"), link(9, 2, 0, "")
	saved(t, p, a, b, c, link(4, 0, 0, "alone"))
	goes(t, "three", p, 7, api.OK, a, b, c)
	goes(t, "one", p, 4, api.OK, link(4, 0, 0, "alone"))
	goes(t, "not from the first one", p, 3, api.ErrForm)
	goes(t, "page 0", p, 0, api.ErrSum)
	goes(t, "beyond the disk", p, 20, api.ErrPage)
	goes(t, "a page of zeros", p, 10, api.ErrSum)
	goes(t, "no pager", nil, 7, api.ErrNil)
}

func TestPagesThatEndByAnError(t *testing.T) {
	d, p := made(t, 20)
	a := link(2, 0, 3, "a")
	saved(t, p, a)
	for _, w := range []struct {
		what string
		next page.Frame
		want api.Errno
	}{
		{"a count below", link(3, 0, 0, "b"), api.ErrForm},
		{"a count above", link(3, 2, 0, "b"), api.ErrForm},
		{"a count far above", link(3, 1+256, 0, "b"), api.ErrForm},
		{"a body of three bytes", page.Frame{Kind: page.Chain, Count: 1, ID: 3, Body: "\x00\x00\x00"}, api.ErrForm},
		{"a body of none", page.Frame{Kind: page.Chain, Count: 1, ID: 3}, api.ErrForm},
		{"a leaf", page.Frame{Kind: page.Leaf, Count: 1, ID: 3, Body: "\x00\x00\x00\x00"}, api.ErrKind},
		{"a free one", page.Frame{Kind: page.Free, Count: 1, ID: 3, Body: "\x00\x00\x00\x00"}, api.ErrKind},
		{"back to the first", link(3, 1, 2, "b"), api.ErrForm},
		{"back to itself", link(3, 1, 3, "b"), api.ErrForm},
		{"beyond the disk", link(3, 1, 20, "b"), api.ErrPage},
		{"to a root's", link(3, 1, 1, "b"), api.ErrSum},
	} {
		saved(t, p, w.next)
		if w.next.Kind == page.Chain && w.next.Count == 1 && len(w.next.Body) > 4 {
			goes(t, w.what, p, 2, w.want, a, w.next)
		} else {
			goes(t, w.what, p, 2, w.want, a)
		}
	}
	saved(t, p, link(3, 1, 0, ""))
	goes(t, "a body of four bytes", p, 2, api.OK, a, link(3, 1, 0, ""))
	other, _ := d.Read(3)
	is(t, "Write", d.Write(4, other), api.OK)
	saved(t, p, link(3, 1, 4, ""))
	goes(t, "another page's number", p, 2, api.ErrPage, a, link(3, 1, 4, ""))
	d.Fuse(0)
	d.Sync()
	goes(t, "without power", p, 2, api.ErrPower)
}

func TestPagesAreLoadedWhenTheyAreAskedFor(t *testing.T) {
	_, p := made(t, 20)
	saved(t, p, link(2, 0, 3, "a"), link(3, 1, 4, "b"), link(4, 2, 0, "c"))
	row := chain.Pages(p, 2)
	is(t, "none yet", p.Count().Reads, 0)
	asked := 0
	for f := range row {
		asked++
		is(t, "one by one", p.Count().Reads, asked)
		if f.ID == 3 {
			break
		}
	}
	is(t, "what isn't asked for isn't loaded", p.Count().Reads, 2)
	for f := range row {
		if f.ID == 2 {
			saved(t, p, link(3, 1, 0, "B"))
		}
		asked++
	}
	is(t, "what is there then", asked, 4)
}

func TestReadsOfValues(t *testing.T) {
	_, p := made(t, 40)
	for _, long := range []int{0, 1, 4067, 4068, 4069, 8136, 8137, 65088, 65089, 65536} {
		ids := make([]uint32, chain.Need(long))
		for i := range ids {
			ids[i] = uint32(39 - 2*i)
		}
		frames, e := chain.Frames(ids, 9, text(long))
		is(t, "Frames", e, api.OK)
		saved(t, p, frames...)
		was := p.Count().Reads
		reads(t, strconv.Itoa(long), p, ids[0], text(long), ids...)
		is(t, "each page once", p.Count().Reads-was, len(ids))
		goes(t, "the frames", p, ids[0], api.OK, frames...)
		if long > 0 {
			unread(t, "a byte less", p, ids[0], long-1, api.ErrForm, chain.Need(long-1))
		}
		if long < 65536 {
			unread(t, "a byte more", p, ids[0], long+1, api.ErrForm, len(ids))
		}
		if long > 4068 {
			unread(t, "a page less", p, ids[0], long-4068, api.ErrForm, len(ids)-1)
		}
		if long+4068 <= 65536 {
			unread(t, "a page more", p, ids[0], long+4068, api.ErrForm, len(ids))
		}
	}
}

func TestReadsThatAreRefused(t *testing.T) {
	_, p := made(t, 20)
	whole := text(4068)
	saved(t, p, link(2, 0, 3, whole), link(3, 1, 4, whole), link(4, 2, 0, "end"))
	reads(t, "as it is", p, 2, whole+whole+"end", 2, 3, 4)
	unread(t, "below 0", p, 2, -1, api.ErrLong, 0)
	unread(t, "far below", p, 2, math.MinInt, api.ErrLong, 0)
	unread(t, "above 2^16", p, 2, 65537, api.ErrLong, 0)
	unread(t, "far above", p, 2, math.MaxInt, api.ErrLong, 0)
	unread(t, "that goes ahead of a load's error", p, 99, 65537, api.ErrLong, 0)
	unread(t, "no more pages than it needs", p, 2, 8136, api.ErrForm, 2)
	unread(t, "none", p, 2, 0, api.ErrForm, 1)
	unread(t, "page 0", p, 0, 5, api.ErrSum, 1)
	unread(t, "beyond the disk", p, 20, 5, api.ErrPage, 0)
	unread(t, "not its first page", p, 3, 4071, api.ErrForm, 1)
	_, _, e := chain.Read(nil, 2, 65537)
	is(t, "that goes ahead of no pager", e, api.ErrLong)
	value, ids, e := chain.Read(nil, 2, 5)
	is(t, "no pager", e, api.ErrNil)
	is(t, "beside the error", value == "" && len(ids) == 0, true)
}

func TestWhichErrorOfReadIsFirst(t *testing.T) {
	_, p := made(t, 20)
	whole := text(4068)
	saved(t, p, link(2, 0, 3, whole), link(3, 1, 19, whole[:4067]))
	unread(t, "a body that lacks a byte, ahead of a page that isn't whole", p, 2, 9000, api.ErrForm, 2)
	saved(t, p, link(3, 1, 19, whole))
	unread(t, "a page that isn't whole", p, 2, 9000, api.ErrSum, 3)
	saved(t, p, link(19, 2, 0, "end"), link(3, 1, 19, whole[:4067]), link(2, 0, 3, whole))
	unread(t, "a body that lacks a byte", p, 2, 8139, api.ErrForm, 2)
	saved(t, p, link(2, 0, 3, whole[:100]))
	unread(t, "the first one's", p, 2, 8139, api.ErrForm, 1)
	saved(t, p, link(2, 0, 99, whole[:100]))
	unread(t, "the last one's has too much", p, 2, 99, api.ErrForm, 1)
	unread(t, "just so much, and yet there is another one", p, 2, 100, api.ErrForm, 1)
	saved(t, p, link(2, 0, 99, whole))
	unread(t, "a page beyond the disk", p, 2, 4069, api.ErrPage, 1)
	saved(t, p, page.Frame{Kind: page.Branch, ID: 2, Body: "\x00\x00\x00\x00a"})
	unread(t, "a branch", p, 2, 1, api.ErrKind, 1)
	saved(t, p, link(2, 1, 0, "a"))
	unread(t, "a wrong count", p, 2, 1, api.ErrForm, 1)
}

func TestReadsShareNothing(t *testing.T) {
	_, p := made(t, 20)
	saved(t, p, link(2, 0, 3, text(4068)), link(3, 1, 0, "end"))
	_, ids, _ := chain.Read(p, 2, 4071)
	ids[0] = 77
	reads(t, "the second answer", p, 2, text(4068)+"end", 2, 3)
}

func TestWhatWasWrittenIsRead(t *testing.T) {
	chance := rand.New(rand.NewPCG(9, 1))
	_, p := made(t, 200)
	for range 300 {
		long := chance.IntN(65537)
		if chance.IntN(3) == 0 {
			long = min(65536, 4068*chance.IntN(17)+chance.IntN(3))
		}
		value := make([]byte, long)
		for i := range value {
			value[i] = byte(chance.Uint32())
		}
		ids := make([]uint32, chain.Need(long))
		for i, at := range chance.Perm(198)[:len(ids)] {
			ids[i] = uint32(at + 2)
		}
		frames, e := chain.Frames(ids, chance.Uint64(), string(value))
		is(t, "Frames", e, api.OK)
		for _, at := range chance.Perm(len(frames)) {
			saved(t, p, frames[at])
		}
		reads(t, "what was written", p, ids[0], string(value), ids...)
		other := (long + 1 + chance.IntN(65535)) % 65537
		unread(t, "as another long one", p, ids[0], other, api.ErrForm, min(len(ids), chain.Need(other)))
	}
}

func TestManyPagesEndAtLast(t *testing.T) {
	_, p := made(t, 2048)
	want := make([]page.Frame, 2046)
	for i := range want {
		want[i] = link(uint32(i+2), uint16(i), uint32(i+3), strings.Repeat("x", i))
	}
	want[2045] = link(2047, 2045, 0, "end")
	saved(t, p, want...)
	goes(t, "a whole disk", p, 2, api.OK, want...)
}
