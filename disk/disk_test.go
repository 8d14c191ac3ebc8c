package disk_test

import (
	"math"
	"math/rand/v2"
	"slices"
	"testing"

	"taproot/api"
	"taproot/disk"
)

func filled(b byte) api.Page {
	var p api.Page
	for i := range p {
		p[i] = b
	}
	return p
}

// marked is a page whose bytes tell their places, as far as a byte can.
func marked(by int) api.Page {
	var p api.Page
	for i := range p {
		p[i] = byte(i*7 + i/512*31 + by*53 + 1)
	}
	return p
}

func made(t *testing.T, pages int) *disk.Disk {
	t.Helper()
	d, e := disk.New(pages)
	if e != api.OK || d == nil {
		t.Fatalf("New(%d): %v", pages, e)
	}
	return d
}

func is[T comparable](t *testing.T, what string, got, want T) {
	t.Helper()
	if got != want {
		t.Errorf("%s: %v, wanted %v", what, got, want)
	}
}

func shows(t *testing.T, d *disk.Disk, at uint32, want api.Page) {
	t.Helper()
	p, e := d.Read(at)
	if e != api.OK || p != want {
		t.Errorf("page %d shows something else (%v)", at, e)
	}
}

func lasts(t *testing.T, d *disk.Disk, at uint32, want api.Page) {
	t.Helper()
	if d.Lasts(at) != want {
		t.Errorf("of page %d something else lasts", at)
	}
}

func waits(t *testing.T, d *disk.Disk, want ...int) {
	t.Helper()
	if got := d.Waits(); !slices.Equal(got, want) {
		t.Errorf("%v wait, wanted %v", got, want)
	}
}

// eights are the sectors of pages.
func eights(pages ...int) []int {
	var l []int
	for _, p := range pages {
		for i := range 8 {
			l = append(l, 8*p+i)
		}
	}
	return l
}

func TestNew(t *testing.T) {
	for _, n := range []int{math.MinInt, -4, -1, 0, 1, 3, 2049, 1 << 32, math.MaxInt} {
		if d, e := disk.New(n); d != nil || e != api.ErrArg {
			t.Errorf("New(%d): %v, %v", n, d != nil, e)
		}
	}
	for _, n := range []int{4, 5, 100, 2047, 2048} {
		d := made(t, n)
		is(t, "pages", d.Pages(), n)
		is(t, "steps", d.Steps(), 0)
		is(t, "down", d.Down(), false)
		waits(t, d)
		for at := range uint32(n) {
			shows(t, d, at, api.Page{})
			lasts(t, d, at, api.Page{})
		}
	}
}

func TestPagesThatAreNone(t *testing.T) {
	d := made(t, 5)
	d.Write(0, filled(1))
	d.Write(4, filled(2))
	d.Sync()
	for _, at := range []uint32{5, 6, 2048, 1 << 29, 1<<29 + 4, 1 << 31, math.MaxUint32} {
		p, e := d.Read(at)
		is(t, "read", e, api.ErrPage)
		is(t, "read", p, api.Page{})
		is(t, "write", d.Write(at, filled(9)), api.ErrPage)
		lasts(t, d, at, api.Page{})
	}
	is(t, "steps", d.Steps(), 3)
	waits(t, d)
	shows(t, d, 0, filled(1))
	shows(t, d, 4, filled(2))
}

func TestWriteShowsAndSyncLasts(t *testing.T) {
	d := made(t, 4)
	one, two, three := marked(1), marked(2), marked(3)
	is(t, "write", d.Write(3, one), api.OK)
	shows(t, d, 3, one)
	lasts(t, d, 3, api.Page{})
	shows(t, d, 2, api.Page{})
	waits(t, d, eights(3)...)
	is(t, "write", d.Write(1, two), api.OK)
	waits(t, d, eights(1, 3)...)
	is(t, "write", d.Write(3, three), api.OK)
	waits(t, d, eights(1, 3)...)
	shows(t, d, 3, three)
	shows(t, d, 1, two)
	lasts(t, d, 3, api.Page{})
	is(t, "sync", d.Sync(), api.OK)
	waits(t, d)
	for at, p := range []api.Page{{}, two, {}, three} {
		shows(t, d, uint32(at), p)
		lasts(t, d, uint32(at), p)
	}
	is(t, "steps", d.Steps(), 4)
	is(t, "write", d.Write(1, one), api.OK)
	shows(t, d, 1, one)
	lasts(t, d, 1, two)
	shows(t, d, 3, three)
}

func TestASectorWaitsThoughItIsTheSame(t *testing.T) {
	d := made(t, 4)
	d.Write(2, api.Page{})
	waits(t, d, eights(2)...)
	d.Sync()
	d.Write(2, api.Page{})
	waits(t, d, eights(2)...)
	d.Crash(nil)
	waits(t, d)
}

func TestSyncOfNothingIsAStep(t *testing.T) {
	d := made(t, 4)
	is(t, "sync", d.Sync(), api.OK)
	is(t, "sync", d.Sync(), api.OK)
	is(t, "steps", d.Steps(), 2)
	d.Fuse(1)
	is(t, "sync", d.Sync(), api.OK)
	is(t, "sync", d.Sync(), api.ErrPower)
	is(t, "steps", d.Steps(), 3)
}

func TestFuseOfAWrite(t *testing.T) {
	d := made(t, 4)
	d.Fuse(2)
	is(t, "write", d.Write(0, filled(1)), api.OK)
	is(t, "no page", d.Write(4, filled(1)), api.ErrPage)
	is(t, "sync", d.Sync(), api.OK)
	is(t, "down", d.Down(), false)
	is(t, "no page, ahead of the fuse", d.Write(4, filled(1)), api.ErrPage)
	is(t, "down", d.Down(), false)
	shows(t, d, 0, filled(1))
	is(t, "write", d.Write(1, filled(2)), api.ErrPower)
	is(t, "down", d.Down(), true)
	is(t, "steps", d.Steps(), 2)
	waits(t, d)
	d.Crash([]api.Fate{{Kind: 1}, {Kind: 1}})
	shows(t, d, 1, api.Page{})
}

func TestWithoutPower(t *testing.T) {
	d := made(t, 4)
	d.Write(0, filled(1))
	d.Sync()
	d.Write(0, filled(2))
	d.Fuse(0)
	is(t, "down by the fuse alone", d.Down(), false)
	shows(t, d, 0, filled(2))
	is(t, "sync", d.Sync(), api.ErrPower)
	is(t, "down", d.Down(), true)
	for _, at := range []uint32{0, 4, math.MaxUint32} {
		p, e := d.Read(at)
		is(t, "read", e, api.ErrPower)
		is(t, "read", p, api.Page{})
		is(t, "write", d.Write(at, filled(3)), api.ErrPower)
	}
	is(t, "sync", d.Sync(), api.ErrPower)
	is(t, "steps", d.Steps(), 3)
	is(t, "pages", d.Pages(), 4)
	waits(t, d, eights(0)...)
	lasts(t, d, 0, filled(1))
	lasts(t, d, 4, api.Page{})
	d.Fuse(-1)
	d.Fuse(5)
	is(t, "a fuse gives no power", d.Down(), true)
	is(t, "sync", d.Sync(), api.ErrPower)
}

func TestFuseIsSetAnew(t *testing.T) {
	d := made(t, 4)
	d.Fuse(1)
	d.Fuse(3)
	for range 3 {
		is(t, "sync", d.Sync(), api.OK)
	}
	d.Fuse(-1)
	for range 10 {
		is(t, "write", d.Write(0, filled(1)), api.OK)
	}
	for _, n := range []int{math.MinInt, -2, math.MaxInt} {
		d.Fuse(n)
		is(t, "sync", d.Sync(), api.OK)
		is(t, "sync", d.Sync(), api.OK)
	}
	d.Fuse(1)
	d.Sync()
	is(t, "write", d.Write(0, filled(1)), api.ErrPower)
	d.Crash(nil)
	is(t, "down", d.Down(), false)
	for range 5 {
		is(t, "behind a crash", d.Sync(), api.OK)
	}
	d.Fuse(2)
	d.Crash(nil)
	for range 5 {
		is(t, "behind a crash with a fuse left", d.Sync(), api.OK)
	}
	d.Fuse(0)
	d.Crash(nil)
	is(t, "behind a crash with a fuse of 0", d.Sync(), api.OK)
}

// torn is what a page is, of whose sectors the first bytes are as the new one's.
func torn(was, now api.Page, bytes ...int) api.Page {
	for i, n := range bytes {
		for j := range n {
			was[512*i+j] = now[512*i+j]
		}
	}
	return was
}

func TestCrashByFates(t *testing.T) {
	was, now := marked(1), marked(2)
	for i := range was {
		if was[i] == now[i] {
			t.Fatal("the pages don't differ everywhere")
		}
	}
	for _, one := range []struct {
		fates []api.Fate
		bytes []int
	}{
		{nil, nil},
		{[]api.Fate{}, nil},
		{[]api.Fate{{Kind: 1}}, []int{512}},
		{[]api.Fate{{}, {Kind: 1}, {Kind: 0, Cut: 9}, {Kind: 1, Cut: 3}}, []int{0, 512, 0, 512}},
		{[]api.Fate{{Kind: 2, Cut: 0}, {Kind: 2, Cut: 1}, {Kind: 2, Cut: 511}, {Kind: 2, Cut: 512}, {Kind: 2, Cut: 513}}, []int{0, 1, 511, 512, 512}},
		{[]api.Fate{{Kind: 2, Cut: -1}, {Kind: 2, Cut: math.MinInt}, {Kind: 2, Cut: math.MaxInt}, {Kind: 2, Cut: 256}}, []int{0, 0, 512, 256}},
		{[]api.Fate{{Kind: 3, Cut: 5}, {Kind: -1, Cut: 5}, {Kind: math.MaxInt, Cut: 5}, {Kind: math.MinInt}, {Kind: 1}}, []int{0, 0, 0, 0, 512}},
		{slices.Repeat([]api.Fate{{Kind: 1}}, 100), []int{512, 512, 512, 512, 512, 512, 512, 512}},
		{slices.Repeat([]api.Fate{{Kind: 2, Cut: 77}}, 8), []int{77, 77, 77, 77, 77, 77, 77, 77}},
	} {
		for _, down := range []bool{false, true} {
			d := made(t, 4)
			d.Write(2, was)
			d.Sync()
			d.Write(2, now)
			if down {
				d.Fuse(0)
				d.Sync()
			}
			fates := slices.Clone(one.fates)
			d.Crash(fates)
			want := torn(was, now, one.bytes...)
			shows(t, d, 2, want)
			lasts(t, d, 2, want)
			waits(t, d)
			is(t, "down", d.Down(), false)
			is(t, "steps", d.Steps(), 3)
			is(t, "the fates stay", slices.Equal(fates, one.fates), true)
			d.Crash(slices.Repeat([]api.Fate{{}}, 8))
			shows(t, d, 2, want)
		}
	}
}

func TestFatesGoBySectorsNotByWrites(t *testing.T) {
	d := made(t, 2048)
	for _, at := range []uint32{2047, 1, 300, 1} {
		d.Write(at, filled(byte(at)))
	}
	waits(t, d, eights(1, 300, 2047)...)
	fates := make([]api.Fate, 24)
	fates[7], fates[8], fates[16], fates[23] = api.Fate{Kind: 1}, api.Fate{Kind: 1}, api.Fate{Kind: 2, Cut: 10}, api.Fate{Kind: 1}
	d.Crash(fates)
	none := api.Page{}
	shows(t, d, 1, torn(none, filled(1), 0, 0, 0, 0, 0, 0, 0, 512))
	shows(t, d, 300, torn(none, filled(300%256), 512))
	shows(t, d, 2047, torn(none, filled(255), 10, 0, 0, 0, 0, 0, 0, 512))
	shows(t, d, 0, none)
}

func TestExample(t *testing.T) {
	d := made(t, 4)
	d.Write(0, filled(1))
	d.Crash(nil)
	shows(t, d, 0, api.Page{})
}

func TestAnswersAreNewMemory(t *testing.T) {
	d := made(t, 4)
	page := marked(1)
	d.Write(1, page)
	page[0]++
	shows(t, d, 1, marked(1))
	l, m := d.Waits(), d.Waits()
	for i := range l {
		l[i] = -1
	}
	is(t, "another answer", slices.Equal(m, eights(1)), true)
	waits(t, d, eights(1)...)
	d.Sync()
	d.Write(2, page)
	is(t, "an elder answer", slices.Equal(m, eights(1)), true)
}

func TestTwoDisksShareNothing(t *testing.T) {
	a, b := made(t, 4), made(t, 4)
	a.Write(0, filled(1))
	a.Sync()
	a.Write(1, filled(1))
	a.Fuse(0)
	a.Sync()
	shows(t, b, 0, api.Page{})
	waits(t, b)
	is(t, "steps", b.Steps(), 0)
	is(t, "down", b.Down(), false)
}

func TestNilDisk(t *testing.T) {
	var d *disk.Disk
	is(t, "pages", d.Pages(), 0)
	for _, at := range []uint32{0, 1, math.MaxUint32} {
		p, e := d.Read(at)
		is(t, "read", e, api.ErrNil)
		is(t, "read", p, api.Page{})
		is(t, "write", d.Write(at, filled(1)), api.ErrNil)
		lasts(t, d, at, api.Page{})
	}
	is(t, "sync", d.Sync(), api.ErrNil)
	d.Fuse(0)
	is(t, "sync", d.Sync(), api.ErrNil)
	d.Crash(nil)
	d.Crash([]api.Fate{{Kind: 1}})
	waits(t, d)
	is(t, "steps", d.Steps(), 0)
	is(t, "down", d.Down(), false)
}

// model is what the document says of a disk, byte by byte.
type model struct {
	shown, lasts []byte
	waits        []bool
	steps, fuse  int
	down         bool
}

func (m *model) step() bool {
	if m.down || m.fuse == 0 {
		m.down = true
		return false
	}
	m.fuse--
	m.steps++
	return true
}

func (m *model) write(at int, p api.Page) api.Errno {
	switch {
	case m.down:
		return api.ErrPower
	case at >= len(m.shown)/4096:
		return api.ErrPage
	case !m.step():
		return api.ErrPower
	}
	copy(m.shown[4096*at:], p[:])
	for i := range 8 {
		m.waits[8*at+i] = true
	}
	return api.OK
}

func (m *model) sync() api.Errno {
	if !m.step() {
		return api.ErrPower
	}
	copy(m.lasts, m.shown)
	clear(m.waits)
	return api.OK
}

func (m *model) crash(fates []api.Fate) {
	for n, w := range m.waits {
		if !w {
			continue
		}
		var f api.Fate
		if len(fates) > 0 {
			f, fates = fates[0], fates[1:]
		}
		for i := range 512 {
			if f.Kind == 1 || f.Kind == 2 && i < f.Cut {
				m.lasts[512*n+i] = m.shown[512*n+i]
			}
		}
	}
	copy(m.shown, m.lasts)
	clear(m.waits)
	m.fuse, m.down = -1, false
}

func (m *model) compare(t *testing.T, d *disk.Disk) {
	t.Helper()
	is(t, "steps", d.Steps(), m.steps)
	is(t, "down", d.Down(), m.down)
	var l []int
	for n, w := range m.waits {
		if w {
			l = append(l, n)
		}
	}
	waits(t, d, l...)
	for at := range len(m.shown) / 4096 {
		lasts(t, d, uint32(at), api.Page(m.lasts[4096*at:]))
		if m.down {
			_, e := d.Read(uint32(at))
			is(t, "read", e, api.ErrPower)
		} else {
			shows(t, d, uint32(at), api.Page(m.shown[4096*at:]))
		}
	}
}

func TestAsTheModel(t *testing.T) {
	const pages = 6
	for seed := range uint64(60) {
		chance := rand.New(rand.NewPCG(seed, 9))
		d := made(t, pages)
		m := &model{shown: make([]byte, 4096*pages), lasts: make([]byte, 4096*pages), waits: make([]bool, 8*pages), fuse: -1}
		for range 60 {
			switch chance.IntN(8) {
			case 0, 1, 2, 3:
				at, p := chance.IntN(pages+1), marked(chance.IntN(256))
				is(t, "write", d.Write(uint32(at), p), m.write(at, p))
			case 4:
				is(t, "sync", d.Sync(), m.sync())
			case 5:
				n := chance.IntN(8) - 2
				d.Fuse(n)
				m.fuse = n
			default:
				fates := make([]api.Fate, chance.IntN(24))
				for i := range fates {
					fates[i] = api.Fate{Kind: chance.IntN(5) - 1, Cut: chance.IntN(700) - 90}
				}
				d.Crash(fates)
				m.crash(fates)
			}
			m.compare(t, d)
			if t.Failed() {
				t.Fatalf("seed %d", seed)
			}
		}
	}
}
