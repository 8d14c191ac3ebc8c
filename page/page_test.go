package page_test

import (
	"encoding/binary"
	"hash/crc32"
	"math"
	"math/rand/v2"
	"slices"
	"strconv"
	"strings"
	"testing"

	"taproot/api"
	"taproot/page"
)

func is[T comparable](t *testing.T, what string, got, want T) {
	t.Helper()
	if got != want {
		t.Errorf("%s: %v, wanted %v", what, got, want)
	}
}

// Where things stand in a page.
const (
	blankAt = 1
	countAt = 2
	idAt    = 4
	txAt    = 8
	longAt  = 16
	sumAt   = 20
	bodyAt  = 24
)

// sum is what the document says of a page's.
func sum(p api.Page) uint32 {
	return crc32.ChecksumIEEE(append(slices.Clone(p[:sumAt]), p[bodyAt:]...))
}

// summed is a page with the sum that it should have.
func summed(p api.Page) api.Page {
	binary.BigEndian.PutUint32(p[sumAt:], sum(p))
	return p
}

// byHand is a frame's page, as the document tells it.
func byHand(f page.Frame) api.Page {
	var p api.Page
	p[0] = f.Kind
	binary.BigEndian.PutUint16(p[countAt:], f.Count)
	binary.BigEndian.PutUint32(p[idAt:], f.ID)
	binary.BigEndian.PutUint64(p[txAt:], f.Tx)
	binary.BigEndian.PutUint32(p[longAt:], uint32(len(f.Body)))
	copy(p[bodyAt:], f.Body)
	return summed(p)
}

// sealed is a frame's page, which must be one.
func sealed(t *testing.T, f page.Frame) api.Page {
	t.Helper()
	p, e := page.Seal(f)
	is(t, "Seal", e, api.OK)
	return p
}

// opened wants an error of a page, and nothing beside it.
func opened(t *testing.T, what string, p api.Page, want api.Errno) {
	t.Helper()
	f, e := page.Open(p)
	is(t, what, e, want)
	if want != api.OK {
		is(t, what+": beside the error", f, page.Frame{})
	}
}

// frames are of all kinds, of numbers at the ends of theirs, and of bodies at those of theirs.
func frames() []page.Frame {
	bodies := []string{"", "a", "\x00", "\x00\x00a", "a\x00\x00", "\xff", strings.Repeat("b", 255), strings.Repeat("c", 256), strings.Repeat("\xff", page.Room-1), strings.Repeat("\x00", page.Room), strings.Repeat("d", page.Room)}
	l := []page.Frame{}
	for kind := uint8(page.Meta); kind <= page.Free; kind++ {
		for _, body := range bodies {
			l = append(l,
				page.Frame{Kind: kind, Body: body},
				page.Frame{Kind: kind, Count: 0x0102, ID: 0x03040506, Tx: 0x0708090a0b0c0d0e, Body: body},
				page.Frame{Kind: kind, Count: math.MaxUint16, ID: math.MaxUint32, Tx: math.MaxUint64, Body: body})
		}
	}
	return l
}

func TestTheKindsAndTheRoom(t *testing.T) {
	is(t, "the kinds", [5]int{page.Meta, page.Leaf, page.Branch, page.Chain, page.Free}, [5]int{1, 2, 3, 4, 5})
	is(t, "the room", page.Room, api.PageSize-bodyAt)
}

func TestSum(t *testing.T) {
	chance := rand.New(rand.NewPCG(1, 2))
	var p api.Page
	is(t, "of zeros", page.Sum(p), crc32.ChecksumIEEE(make([]byte, 4092)))
	for i := range p {
		p[i] = byte(chance.Uint32())
	}
	was := page.Sum(p)
	is(t, "of any bytes", was, sum(p))
	for at := range p {
		q := p
		q[at] ^= 0x40
		is(t, "byte "+strconv.Itoa(at)+" counts", page.Sum(q) != was, at < sumAt || at >= bodyAt)
	}
}

func TestSealLaysFramesAsTold(t *testing.T) {
	for _, f := range frames() {
		if sealed(t, f) != byHand(f) {
			t.Errorf("kind %d, %d bytes: another page", f.Kind, len(f.Body))
		}
	}
	p := sealed(t, page.Frame{Kind: page.Chain, Count: 0x0102, ID: 0x03040506, Tx: 0x0708090a0b0c0d0e, Body: "hi\x00"})
	is(t, "the head", string(p[:sumAt]), "\x04\x00\x01\x02\x03\x04\x05\x06\x07\x08\x09\x0a\x0b\x0c\x0d\x0e\x00\x00\x00\x03")
	is(t, "the sum", binary.BigEndian.Uint32(p[sumAt:]), page.Sum(p))
	is(t, "the body", string(p[bodyAt:bodyAt+3]), "hi\x00")
	is(t, "what is behind it", string(p[bodyAt+3:]), strings.Repeat("\x00", page.Room-3))
}

func TestSealOfWhatIsNoFrame(t *testing.T) {
	fits, long := strings.Repeat("x", page.Room), strings.Repeat("x", page.Room+1)
	for _, c := range []struct {
		f    page.Frame
		want api.Errno
	}{
		{page.Frame{}, api.ErrKind},
		{page.Frame{Kind: 6, Body: "a"}, api.ErrKind},
		{page.Frame{Kind: 255, ID: 7}, api.ErrKind},
		{page.Frame{Kind: 0, Body: long}, api.ErrKind},
		{page.Frame{Kind: 6, Body: long}, api.ErrKind},
		{page.Frame{Kind: 1, Body: long}, api.ErrLong},
		{page.Frame{Kind: 5, Body: long}, api.ErrLong},
		{page.Frame{Kind: 3, Body: strings.Repeat("x", 1<<17)}, api.ErrLong},
		{page.Frame{Kind: 3, Body: fits}, api.OK},
	} {
		p, e := page.Seal(c.f)
		is(t, "kind "+strconv.Itoa(int(c.f.Kind))+", bytes "+strconv.Itoa(len(c.f.Body)), e, c.want)
		is(t, "beside an error there is no page", p == api.Page{}, c.want != api.OK)
	}
}

func TestWhatIsSealedIsOpenedAsItWas(t *testing.T) {
	for _, f := range frames() {
		got, e := page.Open(sealed(t, f))
		is(t, "OK", e, api.OK)
		if got != f {
			t.Errorf("kind %d, %d bytes: another frame", f.Kind, len(f.Body))
		}
		got, e = page.Open(byHand(f))
		is(t, "OK of one by hand", e, api.OK)
		if got != f {
			t.Errorf("kind %d, %d bytes, by hand: another frame", f.Kind, len(f.Body))
		}
	}
}

func TestPagesOfAnotherSum(t *testing.T) {
	opened(t, "the example", api.Page{}, api.ErrSum)
	p := sealed(t, page.Frame{Kind: page.Leaf, Body: "body"})
	p[sumAt+3] ^= 1
	opened(t, "another sum", p, api.ErrSum)
	p = sealed(t, page.Frame{Kind: page.Leaf, Body: "body"})
	p[bodyAt] ^= 1
	opened(t, "another body", p, api.ErrSum)
	p = sealed(t, page.Frame{Kind: page.Leaf, Body: "body"})
	p[0], p[blankAt], p[api.PageSize-1] = 9, 1, 1
	opened(t, "a sum that is wrong goes ahead of all", p, api.ErrSum)
	p[0] = page.Leaf
	binary.BigEndian.PutUint32(p[longAt:], page.Room+1)
	opened(t, "of what is long, too", p, api.ErrSum)
}

func TestPagesOfNoKind(t *testing.T) {
	for kind := range 256 {
		var p api.Page
		p[0] = byte(kind)
		want := api.ErrKind
		if kind >= page.Meta && kind <= page.Free {
			want = api.OK
		}
		opened(t, "kind "+strconv.Itoa(kind), summed(p), want)
	}
	var p api.Page
	p[0], p[blankAt], p[longAt], p[api.PageSize-1] = 6, 1, 1, 1
	opened(t, "the kind goes ahead of the form", summed(p), api.ErrKind)
}

// with is a leaf's page of a body, with another byte somewhere, and its right sum.
func with(body string, at int, b byte) api.Page {
	p := byHand(page.Frame{Kind: page.Leaf, Body: body})
	p[at] = b
	return summed(p)
}

func TestPagesOfNoForm(t *testing.T) {
	for _, b := range []byte{1, 2, 255} {
		opened(t, "a byte behind the kind", with("body", blankAt, b), api.ErrForm)
		opened(t, "a byte right behind the body", with("body", bodyAt+4, b), api.ErrForm)
		opened(t, "a byte at the end", with("body", api.PageSize-1, b), api.ErrForm)
		opened(t, "a byte behind no body", with("", bodyAt, b), api.ErrForm)
		opened(t, "the one byte behind a long body", with(strings.Repeat("x", page.Room-1), api.PageSize-1, b), api.ErrForm)
		opened(t, "a body's last byte", with("body", bodyAt+3, b), api.OK)
	}
	for long, want := range map[uint32]api.Errno{0: api.ErrForm, 3: api.ErrForm, 4: api.OK, 5: api.OK, page.Room: api.OK, page.Room + 1: api.ErrForm, 1 << 16: api.ErrForm, 1 << 31: api.ErrForm, math.MaxUint32: api.ErrForm} {
		p := byHand(page.Frame{Kind: page.Leaf, Body: "body"})
		binary.BigEndian.PutUint32(p[longAt:], long)
		opened(t, "a body of "+strconv.Itoa(int(long)), summed(p), want)
	}
}

func TestAt(t *testing.T) {
	f := page.Frame{Kind: page.Branch, Count: 3, ID: 7, Tx: 9, Body: "body"}
	p := sealed(t, f)
	torn := p
	torn[bodyAt] ^= 1
	odd := with("body", blankAt, 1)
	for _, c := range []struct {
		what  string
		p     api.Page
		id    uint32
		kinds []uint8
		want  api.Errno
	}{
		{"no kinds", p, 7, nil, api.OK},
		{"none of none", p, 7, []uint8{}, api.OK},
		{"its kind", p, 7, []uint8{page.Branch}, api.OK},
		{"the last of several", p, 7, []uint8{page.Leaf, page.Free, page.Branch}, api.OK},
		{"the first of several", p, 7, []uint8{page.Branch, page.Leaf}, api.OK},
		{"another kind", p, 7, []uint8{page.Leaf}, api.ErrKind},
		{"several others", p, 7, []uint8{page.Meta, page.Leaf, page.Chain, page.Free}, api.ErrKind},
		{"what is no kind", p, 7, []uint8{0, 6, 255}, api.ErrKind},
		{"another number", p, 8, nil, api.ErrPage},
		{"the number goes ahead of the kind", p, 6, []uint8{page.Leaf}, api.ErrPage},
		{"another number of the right kind", p, 0, []uint8{page.Branch}, api.ErrPage},
		{"the greatest number", p, math.MaxUint32, nil, api.ErrPage},
		{"the sum goes ahead of the number", torn, 8, []uint8{page.Leaf}, api.ErrSum},
		{"a torn one", torn, 7, []uint8{page.Branch}, api.ErrSum},
		{"zeros", api.Page{}, 0, nil, api.ErrSum},
		{"the form goes ahead of the number", odd, 8, []uint8{page.Free}, api.ErrForm},
		{"no kind at all", with("body", 0, 6), 8, []uint8{6}, api.ErrKind},
	} {
		got, e := page.At(c.p, c.id, c.kinds...)
		is(t, c.what, e, c.want)
		if c.want == api.OK {
			is(t, c.what+": the frame", got, f)
		} else {
			is(t, c.what+": beside the error", got, page.Frame{})
		}
	}
	kinds := []uint8{page.Branch, page.Leaf, page.Meta}
	page.At(p, 7, kinds[:1]...)
	is(t, "what is handed in stays", string(kinds), "\x03\x02\x01")
}

func TestWhatIsOpenedWouldBeSealedAsThatPage(t *testing.T) {
	chance := rand.New(rand.NewPCG(3, 4))
	found := 0
	for range 4000 {
		p := byHand(page.Frame{Kind: uint8(chance.IntN(7)), ID: chance.Uint32(), Body: strings.Repeat("x", chance.IntN(page.Room+1))})
		for range chance.IntN(3) {
			p[chance.IntN(bodyAt)] = byte(chance.IntN(8))
		}
		if chance.IntN(3) == 0 {
			p[chance.IntN(api.PageSize)] = byte(chance.IntN(2))
		}
		p = summed(p)
		f, e := page.Open(p)
		if e != api.OK {
			continue
		}
		found++
		if sealed(t, f) != p {
			t.Fatalf("kind %d, %d bytes: another page", f.Kind, len(f.Body))
		}
	}
	is(t, "enough were frames", found > 500, true)
}

func TestAPageThatIsTurnedIsNone(t *testing.T) {
	chance := rand.New(rand.NewPCG(5, 6))
	for _, f := range frames() {
		p := sealed(t, f)
		for range 60 {
			q := p
			at := chance.IntN(api.PageSize - 3)
			if chance.IntN(3) == 0 {
				at = chance.IntN(bodyAt + 4)
			}
			long := 1 + chance.IntN(4)
			within := at >= sumAt && at+long <= bodyAt
			without := at+long <= sumAt || at >= bodyAt
			for i := range long {
				q[at+i] ^= byte(chance.Uint32())
			}
			if q == p || !within && !without {
				continue
			}
			opened(t, "turned at "+strconv.Itoa(at), q, api.ErrSum)
		}
	}
	p := sealed(t, page.Frame{Kind: page.Leaf, Body: "body"})
	for at := range p {
		for bit := range 8 {
			q := p
			q[at] ^= 1 << bit
			opened(t, "a bit of byte "+strconv.Itoa(at), q, api.ErrSum)
		}
	}
}
