package pager_test

import (
	"iter"
	"maps"
	"math"
	"math/rand/v2"
	"slices"
	"strconv"
	"strings"
	"testing"

	"taproot/api"
	"taproot/disk"
	"taproot/meta"
	"taproot/page"
	"taproot/pager"
)

func is[T comparable](t *testing.T, what string, got, want T) {
	t.Helper()
	if got != want {
		t.Errorf("%s: %v, wanted %v", what, got, want)
	}
}

// made is a disk, and a pager of it.
func made(t *testing.T, pages int) (*disk.Disk, *pager.Pager) {
	t.Helper()
	d, e := disk.New(pages)
	if e != api.OK {
		t.Fatalf("disk.New(%d): %v", pages, e)
	}
	p := pager.New(d)
	if p == nil {
		t.Fatal("no pager of a disk")
	}
	return d, p
}

// leaf is a frame of a page.
func leaf(id uint32, body string) page.Frame {
	return page.Frame{Kind: page.Leaf, Count: 3, ID: id, Tx: 9, Body: body}
}

// saved is a frame on the disk, which must be there then.
func saved(t *testing.T, p *pager.Pager, f page.Frame) page.Frame {
	t.Helper()
	is(t, "Save", p.Save(f), api.OK)
	return f
}

// loads wants a frame, or an error and nothing beside it.
func loads(t *testing.T, what string, p *pager.Pager, id uint32, want page.Frame, wanted api.Errno, kinds ...uint8) {
	t.Helper()
	f, e := p.Load(id, kinds...)
	is(t, what, e, wanted)
	is(t, what+": the frame", f, want)
}

// counts wants what was done.
func counts(t *testing.T, what string, p *pager.Pager, reads, writes, syncs int) {
	t.Helper()
	is(t, what+": what was done", p.Count(), pager.Count{Reads: reads, Writes: writes, Syncs: syncs})
}

// rooted wants a root, its place and an error.
func rooted(t *testing.T, what string, p *pager.Pager, want meta.Root, at int, wanted api.Errno) {
	t.Helper()
	r, place, e := p.Root()
	is(t, what, e, wanted)
	is(t, what+": the root", r, want)
	is(t, what+": the place", place, at)
}

// raw writes a page without a pager.
func raw(t *testing.T, d *disk.Disk, at uint32, p api.Page) {
	t.Helper()
	is(t, "Write", d.Write(at, p), api.OK)
}

// sealed is a frame's page, which must be one.
func sealed(t *testing.T, f page.Frame) api.Page {
	t.Helper()
	p, e := page.Seal(f)
	is(t, "Seal", e, api.OK)
	return p
}

// rootPage is a root's page, which must be one.
func rootPage(t *testing.T, r meta.Root, place int) api.Page {
	t.Helper()
	p, e := meta.Make(r, place)
	is(t, "Make", e, api.OK)
	return p
}

func TestNewAndPages(t *testing.T) {
	is(t, "the example", pager.New(nil) == nil, true)
	for _, n := range []int{4, 5, 100, 2048} {
		d, p := made(t, n)
		is(t, "pages", p.Pages(), uint32(n))
		counts(t, "a new one", p, 0, 0, 0)
		is(t, "nothing was done to the disk", d.Steps(), 0)
		is(t, "another one of the disk", pager.New(d) != p, true)
	}
}

func TestOfANilPager(t *testing.T) {
	var p *pager.Pager
	is(t, "Pages", p.Pages(), 0)
	loads(t, "Load", p, 2, page.Frame{}, api.ErrNil)
	loads(t, "Load of no page", p, math.MaxUint32, page.Frame{}, api.ErrNil, page.Leaf)
	is(t, "Save", p.Save(leaf(2, "a")), api.ErrNil)
	is(t, "Save of what is none", p.Save(page.Frame{}), api.ErrNil)
	is(t, "Sync", p.Sync(), api.ErrNil)
	rooted(t, "Root", p, meta.Root{}, 0, api.ErrNil)
	is(t, "Commit", p.Commit(meta.First(), 0), api.ErrNil)
	is(t, "Commit of what is none", p.Commit(meta.Root{}, 7), api.ErrNil)
	counts(t, "Count", p, 0, 0, 0)
	for range pager.Each(p, []uint32{2, 3}, body) {
		t.Error("a row of a nil pager gives something")
	}
	for range pager.Each[string](p, []uint32{2, 3}, nil) {
		t.Error("a row of a nil pager, without a get, gives something")
	}
}

func TestSaveAndLoad(t *testing.T) {
	d, p := made(t, 6)
	bodies := []string{"", "a", "\x00", "\x00\xffb\x00", strings.Repeat("\xff", page.Room)}
	for kind := uint8(page.Leaf); kind <= page.Free; kind++ {
		for i, b := range bodies {
			id := uint32(2 + i%4)
			for _, f := range []page.Frame{{Kind: kind, ID: id, Body: b}, {Kind: kind, Count: math.MaxUint16, ID: id, Tx: math.MaxUint64, Body: b}} {
				saved(t, p, f)
				loads(t, "of any kind", p, id, f, api.OK)
				loads(t, "of its kind", p, id, f, api.OK, kind)
				loads(t, "of several kinds", p, id, f, api.OK, page.Meta, kind)
				loads(t, "of another kind", p, id, page.Frame{}, api.ErrKind, page.Meta, kind%5+1)
				shown, _ := d.Read(id)
				is(t, "the page on the disk", shown == sealed(t, f), true)
			}
		}
	}
}

func TestLoadOfWhatIsWrong(t *testing.T) {
	d, p := made(t, 5)
	loads(t, "zeros", p, 2, page.Frame{}, api.ErrSum)
	f := saved(t, p, leaf(4, "a"))
	for _, id := range []uint32{5, 6, 2048, 1 << 31, math.MaxUint32} {
		loads(t, "page "+strconv.Itoa(int(id)), p, id, page.Frame{}, api.ErrPage)
	}
	raw(t, d, 3, sealed(t, f))
	loads(t, "another page's", p, 3, page.Frame{}, api.ErrPage)
	loads(t, "the number goes ahead of the kind", p, 3, page.Frame{}, api.ErrPage, page.Chain)
	torn := sealed(t, f)
	torn[100]++
	raw(t, d, 4, torn)
	loads(t, "a torn one", p, 4, page.Frame{}, api.ErrSum)
	d.Fuse(0)
	d.Sync()
	for _, id := range []uint32{0, 3, 4, 5, math.MaxUint32} {
		loads(t, "without power", p, id, page.Frame{}, api.ErrPower)
	}
}

func TestLoadOfTheRoots(t *testing.T) {
	_, p := made(t, 4)
	is(t, "Commit", p.Commit(meta.First(), 1), api.OK)
	loads(t, "the place 0", p, 0, page.Frame{}, api.ErrSum)
	f, e := p.Load(1, page.Meta)
	is(t, "the place 1", e, api.OK)
	is(t, "what it is", [4]uint64{uint64(f.Kind), uint64(f.Count), uint64(f.ID), f.Tx}, [4]uint64{page.Meta, meta.Version, 1, 1})
	loads(t, "as a leaf", p, 1, page.Frame{}, api.ErrKind, page.Leaf, page.Branch)
}

func TestSaveOfWhatIsWrong(t *testing.T) {
	fits, long := strings.Repeat("x", page.Room), strings.Repeat("x", page.Room+1)
	for _, c := range []struct {
		what string
		f    page.Frame
		want api.Errno
	}{
		{"the place 0", leaf(0, "a"), api.ErrPage},
		{"the place 1", leaf(1, "a"), api.ErrPage},
		{"a root in its place", page.Frame{Kind: page.Meta, ID: 1, Body: "a"}, api.ErrPage},
		{"the number goes ahead of the kind", page.Frame{Kind: 6, ID: 1}, api.ErrPage},
		{"the number goes ahead of the body", leaf(0, long), api.ErrPage},
		{"no frame", page.Frame{}, api.ErrPage},
		{"no kind", page.Frame{ID: 2, Body: "a"}, api.ErrKind},
		{"another kind", page.Frame{Kind: 6, ID: 2, Body: "a"}, api.ErrKind},
		{"another kind, too long", page.Frame{Kind: 255, ID: 2, Body: long}, api.ErrKind},
		{"too long", leaf(2, long), api.ErrLong},
		{"a root, too long", page.Frame{Kind: page.Meta, ID: 2, Body: long}, api.ErrLong},
		{"a root", page.Frame{Kind: page.Meta, ID: 2, Count: 1, Tx: 4, Body: "a"}, api.ErrKind},
		{"a root on no page", page.Frame{Kind: page.Meta, ID: 9}, api.ErrKind},
		{"too long on no page", leaf(9, long), api.ErrLong},
		{"no page", leaf(5, "a"), api.ErrPage},
		{"a number far off", leaf(math.MaxUint32, "a"), api.ErrPage},
		{"the first page", leaf(2, fits), api.OK},
		{"the last page", leaf(4, "a"), api.OK},
	} {
		d, p := made(t, 5)
		is(t, c.what, p.Save(c.f), c.want)
		wrote := 0
		if c.want == api.OK {
			wrote = 1
		}
		counts(t, c.what, p, 0, wrote, 0)
		is(t, c.what+": steps of the disk", d.Steps(), wrote)
		d.Fuse(0)
		if c.want == api.OK || c.f.ID == 5 || c.f.ID == math.MaxUint32 {
			d.Sync()
			c.want = api.ErrPower
		}
		is(t, c.what+", without power", p.Save(c.f), c.want)
		counts(t, c.what+", without power", p, 0, wrote, 0)
	}
}

func TestSyncLasts(t *testing.T) {
	d, p := made(t, 4)
	first := saved(t, p, leaf(2, "first"))
	is(t, "Sync", p.Sync(), api.OK)
	is(t, "it lasts", d.Lasts(2) == sealed(t, first), true)
	second := saved(t, p, leaf(2, "second"))
	loads(t, "what is shown", p, 2, second, api.OK)
	d.Crash(nil)
	loads(t, "what lasted", p, 2, first, api.OK)
	d.Fuse(0)
	is(t, "Sync without power", p.Sync(), api.ErrPower)
	is(t, "Sync without power, again", p.Sync(), api.ErrPower)
	counts(t, "two were OK", p, 2, 2, 1)
}

func TestCount(t *testing.T) {
	d, p := made(t, 4)
	p.Load(2)
	counts(t, "a Load of what isn't whole", p, 1, 0, 0)
	p.Load(4)
	p.Load(math.MaxUint32)
	counts(t, "Loads of no page", p, 1, 0, 0)
	p.Save(leaf(2, "a"))
	counts(t, "a Save", p, 1, 1, 0)
	p.Load(2, page.Leaf)
	counts(t, "a Load", p, 2, 1, 0)
	p.Load(2, page.Chain)
	counts(t, "a Load of another kind", p, 3, 1, 0)
	p.Save(leaf(4, "a"))
	counts(t, "a Save on no page", p, 3, 1, 0)
	p.Sync()
	counts(t, "a Sync", p, 3, 1, 1)
	p.Root()
	counts(t, "a Root that isn't there", p, 5, 1, 1)
	p.Commit(meta.First(), 1)
	counts(t, "a Commit", p, 5, 2, 2)
	p.Root()
	counts(t, "a Root", p, 7, 2, 2)
	p.Commit(meta.First(), 2)
	p.Commit(meta.Root{}, 0)
	counts(t, "Commits of nothing", p, 7, 2, 2)
	d.Fuse(1)
	is(t, "a Commit of which the Write goes", p.Commit(meta.First(), 0), api.ErrPower)
	counts(t, "its Write", p, 7, 3, 2)
	p.Load(2)
	p.Root()
	p.Save(leaf(2, "b"))
	p.Sync()
	p.Commit(meta.First(), 0)
	counts(t, "nothing without power", p, 7, 3, 2)
	other := pager.New(d)
	d.Crash(nil)
	p.Load(2)
	counts(t, "and on", p, 8, 3, 2)
	counts(t, "another one of the disk", other, 0, 0, 0)
}

func TestRoot(t *testing.T) {
	d, p := made(t, 4)
	none := meta.Root{}
	rooted(t, "of zeros", p, none, 0, api.ErrMeta)
	old, young := meta.Root{Tx: 4, High: 9, Data: 8, Clock: 3}, meta.Root{Tx: 5, High: 7, Free: 2}
	raw(t, d, 1, rootPage(t, old, 1))
	rooted(t, "the second alone", p, old, 1, api.OK)
	raw(t, d, 0, rootPage(t, young, 0))
	rooted(t, "the first is greater", p, young, 0, api.OK)
	raw(t, d, 0, rootPage(t, old, 0))
	rooted(t, "both are one", p, old, 0, api.OK)
	raw(t, d, 1, rootPage(t, young, 1))
	rooted(t, "the second is greater", p, young, 1, api.OK)
	raw(t, d, 1, rootPage(t, young, 0))
	rooted(t, "another place's", p, old, 0, api.OK)
	raw(t, d, 0, api.Page{})
	rooted(t, "none", p, none, 0, api.ErrMeta)
	raw(t, d, 0, rootPage(t, young, 0))
	d.Fuse(0)
	d.Sync()
	rooted(t, "without power", p, none, 0, api.ErrPower)
}

func TestCommit(t *testing.T) {
	d, p := made(t, 4)
	r := meta.Root{Tx: 6, High: 4, Data: 3, Free: 2, Clock: 11}
	f := saved(t, p, leaf(3, "body"))
	is(t, "Commit", p.Commit(r, 1), api.OK)
	is(t, "its page lasts", d.Lasts(1) == rootPage(t, r, 1), true)
	is(t, "the other place stays", d.Lasts(0) == api.Page{}, true)
	is(t, "what was saved lasts", d.Lasts(3) == sealed(t, f), true)
	is(t, "steps: the Save, the Write, the Sync", d.Steps(), 3)
	rooted(t, "it is picked", p, r, 1, api.OK)
	next := meta.Root{Tx: 7, High: 3}
	is(t, "Commit of the next", p.Commit(next, 0), api.OK)
	d.Crash(nil)
	rooted(t, "behind a crash", p, next, 0, api.OK)
	is(t, "the one ahead stays", d.Lasts(1) == rootPage(t, r, 1), true)
	older := meta.Root{Tx: 1, High: 2, Clock: api.MaxTime}
	is(t, "Commit of an older one", p.Commit(older, 0), api.OK)
	rooted(t, "the greater one is picked", p, r, 1, api.OK)
}

func TestCommitOfWhatIsWrong(t *testing.T) {
	for _, c := range []struct {
		what  string
		r     meta.Root
		place int
		want  api.Errno
	}{
		{"the place 2", meta.First(), 2, api.ErrArg},
		{"the place -1", meta.First(), -1, api.ErrArg},
		{"a place far off", meta.First(), 1 << 32, api.ErrArg},
		{"the place goes ahead of the root", meta.Root{}, 3, api.ErrArg},
		{"no root", meta.Root{}, 0, api.ErrRange},
		{"a root that isn't right", meta.Root{Tx: 1, High: 2, Data: 2}, 1, api.ErrRange},
		{"a clock above the end", meta.Root{Tx: 1, High: 2, Clock: api.MaxTime + 1}, 1, api.ErrRange},
	} {
		d, p := made(t, 4)
		is(t, c.what, p.Commit(c.r, c.place), c.want)
		is(t, c.what+": steps", d.Steps(), 0)
		d.Fuse(0)
		d.Sync()
		is(t, c.what+", without power", p.Commit(c.r, c.place), c.want)
		is(t, "a good one, without power", p.Commit(meta.First(), 0), api.ErrPower)
		counts(t, c.what, p, 0, 0, 0)
	}
}

func TestTheFuseOfACommit(t *testing.T) {
	old, young := meta.Root{Tx: 4, High: 9}, meta.Root{Tx: 5, High: 9}
	for steps := range 3 {
		for kind := range 3 {
			d, p := made(t, 4)
			is(t, "Commit", p.Commit(old, 0), api.OK)
			d.Fuse(steps)
			got := p.Commit(young, 1)
			is(t, "its error", got == api.OK, steps == 2)
			is(t, "the power", got == api.ErrPower, d.Down())
			fates := slices.Repeat([]api.Fate{{Kind: kind, Cut: 400}}, api.Sectors)
			d.Crash(fates)
			if steps == 2 || steps == 1 && kind > 0 {
				rooted(t, "the new one", p, young, 1, api.OK)
			} else {
				rooted(t, "the old one", p, old, 0, api.OK)
			}
		}
	}
}

// body is what a row asks of a frame: its body, or an error of one that begins with an x.
func body(f page.Frame) (string, api.Errno) {
	if strings.HasPrefix(f.Body, "x") {
		return "", api.ErrHandle
	}
	return f.Body, api.OK
}

// item is one thing of a row.
type item struct {
	x string
	e api.Errno
}

// items are a row's.
func items(r iter.Seq2[string, api.Errno]) []item {
	var l []item
	for x, e := range r {
		l = append(l, item{x, e})
	}
	return l
}

// gives wants a row's things, as often as it is gone through.
func gives(t *testing.T, what string, r iter.Seq2[string, api.Errno], want ...item) {
	t.Helper()
	for range 2 {
		if got := items(r); !slices.Equal(got, want) {
			t.Errorf("%s: %v, wanted %v", what, got, want)
		}
	}
}

// filled is a pager whose pages 2 to 6 are b, c, d, x and f; 7 is none, and 8 stands for another one.
func filled(t *testing.T) (*disk.Disk, *pager.Pager) {
	t.Helper()
	d, p := made(t, 9)
	for i, b := range []string{"b", "c", "d", "x", "f"} {
		saved(t, p, page.Frame{Kind: uint8(page.Leaf + i%4), ID: uint32(2 + i), Body: b})
	}
	raw(t, d, 8, sealed(t, leaf(3, "c")))
	return d, p
}

func TestEach(t *testing.T) {
	d, p := filled(t)
	for _, c := range []struct {
		what string
		ids  []uint32
		want []item
	}{
		{"no numbers", nil, nil},
		{"an empty list", []uint32{}, nil},
		{"one", []uint32{3}, []item{{"c", 0}}},
		{"several, in order", []uint32{2, 3, 4, 6}, []item{{"b", 0}, {"c", 0}, {"d", 0}, {"f", 0}}},
		{"several, in no order", []uint32{6, 2, 2, 4}, []item{{"f", 0}, {"b", 0}, {"b", 0}, {"d", 0}}},
		{"an error of get's ends it", []uint32{2, 5, 3}, []item{{"b", 0}, {"", api.ErrHandle}}},
		{"what isn't whole ends it", []uint32{4, 7, 3}, []item{{"d", 0}, {"", api.ErrSum}}},
		{"another page's ends it", []uint32{8, 3}, []item{{"", api.ErrPage}}},
		{"no page ends it", []uint32{3, 9, 3}, []item{{"c", 0}, {"", api.ErrPage}}},
		{"the first error ends it", []uint32{6, math.MaxUint32, 5, 7}, []item{{"f", 0}, {"", api.ErrPage}}},
		{"a root's page that is none", []uint32{2, 0, 3}, []item{{"b", 0}, {"", api.ErrSum}}},
	} {
		gives(t, c.what, pager.Each(p, c.ids, body), c.want...)
	}
	is(t, "Commit", p.Commit(meta.First(), 1), api.OK)
	kinds := pager.Each(p, []uint32{1, 2, 3, 4, 6}, func(f page.Frame) (string, api.Errno) { return strconv.Itoa(int(f.Kind)), api.OK })
	gives(t, "frames of any kind", kinds, item{"1", 0}, item{"2", 0}, item{"3", 0}, item{"4", 0}, item{"2", 0})
	d.Fuse(0)
	d.Sync()
	gives(t, "without power", pager.Each(p, []uint32{2, 3}, body), item{"", api.ErrPower})
}

func TestEachAnswersWhatGetDoes(t *testing.T) {
	_, p := filled(t)
	both := func(f page.Frame) (string, api.Errno) { return f.Body + "!", api.ErrLost }
	gives(t, "what get answers beside an error", pager.Each(p, []uint32{2, 3}, both), item{"b!", api.ErrLost})
	var asked []page.Frame
	for f, e := range pager.Each(p, []uint32{4, 2}, func(f page.Frame) (page.Frame, api.Errno) { return f, api.OK }) {
		is(t, "OK", e, api.OK)
		asked = append(asked, f)
	}
	is(t, "frames as they are", slices.Equal(asked, []page.Frame{{Kind: page.Chain, ID: 4, Body: "d"}, {Kind: page.Leaf, ID: 2, Body: "b"}}), true)
}

func TestEachWithoutAGet(t *testing.T) {
	d, p := filled(t)
	gives(t, "the first one's", pager.Each[string](p, []uint32{2, 3}, nil), item{"", api.ErrArg})
	gives(t, "of what isn't there", pager.Each[string](p, []uint32{99}, nil), item{"", api.ErrArg})
	gives(t, "no numbers", pager.Each[string](p, nil, nil))
	counts(t, "nothing is loaded", p, 0, 5, 0)
	d.Fuse(0)
	d.Sync()
	gives(t, "without power", pager.Each[string](p, []uint32{2}, nil), item{"", api.ErrArg})
	d.Crash(nil)
}

func TestEachWithAGetThatPanics(t *testing.T) {
	_, p := filled(t)
	r := pager.Each(p, []uint32{2, 3, 4}, func(f page.Frame) (string, api.Errno) {
		if f.ID == 3 {
			panic("no")
		}
		return f.Body, api.OK
	})
	gives(t, "it ends", r, item{"b", 0}, item{"", api.ErrArg})
	defer func() {
		is(t, "what the one who goes through says is his", recover() != nil, true)
	}()
	for range pager.Each(p, []uint32{2, 3}, body) {
		panic("mine")
	}
}

func TestEachLoadsWhatIsAskedFor(t *testing.T) {
	_, p := filled(t)
	r := pager.Each(p, []uint32{2, 3, 4, 5, 6}, body)
	counts(t, "a row that wasn't gone through", p, 0, 5, 0)
	seen := 0
	for range r {
		seen++
		counts(t, "one by one", p, seen, 5, 0)
		if seen == 2 {
			break
		}
	}
	counts(t, "a row that was left", p, 2, 5, 0)
	items(r)
	counts(t, "up to the first error", p, 6, 5, 0)
	asked := 0
	for range pager.Each(p, []uint32{2, 7, 9, 3}, func(page.Frame) (int, api.Errno) { asked++; return 0, api.OK }) {
	}
	is(t, "get is asked of what was loaded alone", asked, 1)
	counts(t, "what isn't whole was read", p, 8, 5, 0)
}

func TestEachTellsWhatIsThereThen(t *testing.T) {
	_, p := filled(t)
	ids := []uint32{2, 3, 99}[:2]
	r := pager.Each(p, ids, body)
	gives(t, "ahead", r, item{"b", 0}, item{"c", 0})
	is(t, "what is handed in stays, spare room, too", [3]uint32(ids[:3]), [3]uint32{2, 3, 99})
	saved(t, p, leaf(3, "new"))
	gives(t, "what was saved behind it", r, item{"b", 0}, item{"new", 0})
	ids[0], ids[1] = 7, 7
	gives(t, "numbers that are changed behind it", r, item{"b", 0}, item{"new", 0})
	var got []string
	for x := range r {
		got = append(got, x)
		saved(t, p, leaf(3, "newer"))
	}
	is(t, "what is saved while it is gone through", strings.Join(got, " "), "b newer")
}

// frame is any that may be saved on a disk of so many pages.
func frame(chance *rand.Rand, pages uint32) page.Frame {
	return page.Frame{
		Kind:  uint8(page.Leaf + chance.IntN(4)),
		Count: uint16(chance.Uint32()),
		ID:    2 + chance.Uint32N(pages-2),
		Tx:    chance.Uint64(),
		Body:  strings.Repeat("ab\x00", chance.IntN(page.Room/3)),
	}
}

func TestWhatIsSavedIsLoadedTillItIsSavedAgain(t *testing.T) {
	const pages = 12
	chance := rand.New(rand.NewPCG(1, 2))
	d, p := made(t, pages)
	shown, lasts := map[uint32]page.Frame{}, map[uint32]page.Frame{}
	var want pager.Count
	var root meta.Root
	for range 3000 {
		switch chance.IntN(12) {
		case 0:
			is(t, "Sync", p.Sync(), api.OK)
			lasts = maps.Clone(shown)
			want.Syncs++
		case 1:
			d.Crash(nil)
			shown = maps.Clone(lasts)
		case 2:
			root = meta.Root{Tx: root.Tx + 1, High: pages, Clock: chance.Uint64N(api.MaxTime)}
			is(t, "Commit", p.Commit(root, int(root.Tx%2)), api.OK)
			lasts = maps.Clone(shown)
			want.Writes++
			want.Syncs++
		case 3, 4, 5, 6:
			f := saved(t, p, frame(chance, pages))
			shown[f.ID] = f
			want.Writes++
		default:
			id := 2 + chance.Uint32N(pages-2)
			if f, ok := shown[id]; ok {
				loads(t, "a page", p, id, f, api.OK, f.Kind)
			} else {
				loads(t, "a page of zeros", p, id, page.Frame{}, api.ErrSum)
			}
			want.Reads++
		}
		if root.Tx > 0 {
			rooted(t, "the root", p, root, int(root.Tx%2), api.OK)
			want.Reads += 2
		}
		is(t, "what was done", p.Count(), want)
	}
}
