package meta_test

import (
	"encoding/binary"
	"hash/crc32"
	"math"
	"math/rand/v2"
	"slices"
	"strconv"
	"strings"
	"testing"

	"taproot/api"
	"taproot/meta"
	"taproot/page"
)

func is[T comparable](t *testing.T, what string, got, want T) {
	t.Helper()
	if got != want {
		t.Errorf("%s: %v, wanted %v", what, got, want)
	}
}

// Where things stand in a root's page.
const (
	placeAt = 4
	sumAt   = 20
	bodyAt  = 24
	dataAt  = bodyAt + 8
	freeAt  = dataAt + 4
	highAt  = freeAt + 4
	clockAt = highAt + 4
	endAt   = clockAt + 8
)

// summed is a page with the sum that it should have.
func summed(p api.Page) api.Page {
	sum := crc32.ChecksumIEEE(append(slices.Clone(p[:sumAt]), p[bodyAt:]...))
	binary.BigEndian.PutUint32(p[sumAt:], sum)
	return p
}

// byHand is a root's page, as the document tells it, whether it is right or not.
func byHand(r meta.Root, place int) api.Page {
	var p api.Page
	p[0] = 1
	binary.BigEndian.PutUint16(p[2:], 1)
	binary.BigEndian.PutUint32(p[placeAt:], uint32(place))
	binary.BigEndian.PutUint64(p[8:], r.Tx)
	binary.BigEndian.PutUint32(p[16:], endAt-bodyAt)
	copy(p[bodyAt:], "taproot!")
	binary.BigEndian.PutUint32(p[dataAt:], r.Data)
	binary.BigEndian.PutUint32(p[freeAt:], r.Free)
	binary.BigEndian.PutUint32(p[highAt:], r.High)
	binary.BigEndian.PutUint64(p[clockAt:], r.Clock)
	return summed(p)
}

// made is a root's page, which must be one.
func made(t *testing.T, r meta.Root, place int) api.Page {
	t.Helper()
	p, e := meta.Make(r, place)
	is(t, "Make", e, api.OK)
	return p
}

// reads wants an error of a page in a place, and nothing beside it.
func reads(t *testing.T, what string, p api.Page, place int, want api.Errno) {
	t.Helper()
	r, e := meta.Read(p, place)
	is(t, what, e, want)
	if want != api.OK {
		is(t, what+": beside the error", r, meta.Root{})
	}
}

// picks wants a root, its place and an error of two pages.
func picks(t *testing.T, what string, a, b api.Page, want meta.Root, at int, wanted api.Errno) {
	t.Helper()
	r, place, e := meta.Pick(a, b)
	is(t, what, e, wanted)
	is(t, what+": the root", r, want)
	is(t, what+": the place", place, at)
}

// right are roots that are, at the ends of what they may be, too.
func right() []meta.Root {
	return []meta.Root{
		meta.First(),
		{Tx: 1, High: 3, Data: 2},
		{Tx: 1, High: 3, Free: 2},
		{Tx: 1, High: 3, Data: 2, Free: 2},
		{Tx: 7, High: 100, Data: 99, Free: 2, Clock: 5},
		{Tx: 7, High: 100, Data: 2, Free: 99, Clock: 5},
		{Tx: 2, High: 2, Clock: api.MaxTime},
		{Tx: 2, High: 2, Clock: api.MaxTime - 1},
		{Tx: 0x0102030405060708, Data: 0x090a0b0c, Free: 0x0d0e0f10, High: 0x11121314, Clock: 0x9516171819},
		{Tx: math.MaxUint64, High: math.MaxUint32, Data: math.MaxUint32 - 1, Free: math.MaxUint32 - 1, Clock: api.MaxTime},
	}
}

// wrong are roots that aren't right, by one thing each, and by all.
func wrong() []meta.Root {
	return []meta.Root{
		{},
		{High: 2},
		{High: 10, Data: 2, Free: 3},
		{Tx: 1},
		{Tx: 1, High: 1},
		{Tx: 1, High: 2, Data: 1},
		{Tx: 1, High: 2, Data: 2},
		{Tx: 1, High: 2, Data: 3},
		{Tx: 1, High: 10, Data: 1},
		{Tx: 1, High: 10, Data: 10},
		{Tx: 1, High: 10, Data: math.MaxUint32},
		{Tx: 1, High: 2, Free: 1},
		{Tx: 1, High: 2, Free: 2},
		{Tx: 1, High: 10, Free: 1},
		{Tx: 1, High: 10, Free: 10},
		{Tx: 1, High: 10, Free: math.MaxUint32},
		{Tx: 1, High: 1, Data: 1, Free: 1},
		{Tx: 1, High: math.MaxUint32, Data: math.MaxUint32},
		{Tx: 1, High: 2, Clock: api.MaxTime + 1},
		{Tx: 1, High: 2, Clock: math.MaxUint64},
		{Data: 1, Free: 1, High: 1, Clock: math.MaxUint64},
	}
}

// places are no places.
func places() []int {
	return []int{-1, 2, 3, 256, 1 << 32, 1<<32 + 1, math.MinInt, math.MaxInt}
}

func TestFirst(t *testing.T) {
	is(t, "the first root", meta.First(), meta.Root{Tx: 1, High: 2})
	is(t, "it is right", meta.First().Right(), true)
	is(t, "the version", meta.Version, 1)
}

func TestRight(t *testing.T) {
	for i, r := range right() {
		is(t, "right "+strconv.Itoa(i), r.Right(), true)
	}
	for i, r := range wrong() {
		is(t, "wrong "+strconv.Itoa(i), r.Right(), false)
	}
}

func TestMakeLaysRootsAsTold(t *testing.T) {
	for i, r := range right() {
		for place := range 2 {
			if made(t, r, place) != byHand(r, place) {
				t.Errorf("root %d in place %d: another page", i, place)
			}
		}
	}
	p := made(t, meta.Root{Tx: 0x0102030405060708, Data: 0x090a0b0c, Free: 0x0d0e0f10, High: 0x11121314, Clock: 0x9516171819}, 1)
	is(t, "the head", string(p[:sumAt]), "\x01\x00\x00\x01\x00\x00\x00\x01\x01\x02\x03\x04\x05\x06\x07\x08\x00\x00\x00\x1c")
	is(t, "the sum", binary.BigEndian.Uint32(p[sumAt:]), page.Sum(p))
	is(t, "the body", string(p[bodyAt:endAt]), "taproot!\x09\x0a\x0b\x0c\x0d\x0e\x0f\x10\x11\x12\x13\x14\x00\x00\x00\x95\x16\x17\x18\x19")
	is(t, "what is behind it", string(p[endAt:]), strings.Repeat("\x00", api.PageSize-endAt))
}

func TestMakeOfWhatIsWrong(t *testing.T) {
	for i, r := range wrong() {
		for place := range 2 {
			p, e := meta.Make(r, place)
			is(t, "wrong "+strconv.Itoa(i), e, api.ErrRange)
			is(t, "beside the error", p, api.Page{})
		}
	}
	for _, place := range places() {
		p, e := meta.Make(meta.First(), place)
		is(t, "place "+strconv.Itoa(place), e, api.ErrArg)
		is(t, "beside the error", p, api.Page{})
		p, e = meta.Make(meta.Root{}, place)
		is(t, "the place goes ahead of the root", e, api.ErrArg)
		is(t, "beside the error", p, api.Page{})
	}
}

func TestWhatIsMadeIsRead(t *testing.T) {
	chance := rand.New(rand.NewPCG(1, 2))
	l := right()
	for range 500 {
		high := 3 + chance.Uint32N(math.MaxUint32-3)
		l = append(l, meta.Root{Tx: 1 + chance.Uint64N(math.MaxUint64-1), High: high, Data: 2 + chance.Uint32N(high-2), Free: 2 + chance.Uint32N(high-2), Clock: chance.Uint64N(api.MaxTime + 1)})
	}
	for i, r := range l {
		for place := range 2 {
			got, e := meta.Read(made(t, r, place), place)
			is(t, "root "+strconv.Itoa(i), e, api.OK)
			is(t, "root "+strconv.Itoa(i), got, r)
			got, e = meta.Read(byHand(r, place), place)
			is(t, "by hand "+strconv.Itoa(i), e, api.OK)
			is(t, "by hand "+strconv.Itoa(i), got, r)
			reads(t, "in the other place", made(t, r, place), 1-place, api.ErrPage)
		}
	}
}

func TestReadOfWhatIsWrong(t *testing.T) {
	for _, place := range places() {
		reads(t, "place "+strconv.Itoa(place), made(t, meta.First(), 0), place, api.ErrArg)
		reads(t, "a page by hand for place "+strconv.Itoa(place), byHand(meta.First(), place), place, api.ErrArg)
		reads(t, "the place goes ahead of the sum", api.Page{}, place, api.ErrArg)
	}
	for i, r := range wrong() {
		for place := range 2 {
			reads(t, "wrong "+strconv.Itoa(i), byHand(r, place), place, api.ErrRange)
		}
	}
}

// sealed is a frame's page, which must be one.
func sealed(t *testing.T, f page.Frame) api.Page {
	t.Helper()
	p, e := page.Seal(f)
	is(t, "Seal", e, api.OK)
	return p
}

func TestReadTellsPagesErrors(t *testing.T) {
	r := meta.Root{Tx: 3, Data: 2, Free: 3, High: 4, Clock: 5}
	p := made(t, r, 0)
	body := string(p[bodyAt:endAt])
	reads(t, "zeros", api.Page{}, 0, api.ErrSum)
	torn := p
	torn[clockAt]++
	reads(t, "a torn one", torn, 0, api.ErrSum)
	reads(t, "the sum goes ahead of the number", torn, 1, api.ErrSum)
	for kind := range 256 {
		q := p
		q[0] = byte(kind)
		want := api.ErrKind
		if kind == page.Meta {
			want = api.OK
		}
		reads(t, "kind "+strconv.Itoa(kind), summed(q), 0, want)
	}
	q := p
	q[1] = 1
	reads(t, "a byte behind the kind", summed(q), 0, api.ErrForm)
	reads(t, "that goes ahead of the number", summed(q), 1, api.ErrForm)
	q = p
	q[endAt] = 1
	reads(t, "a byte behind the body", summed(q), 0, api.ErrForm)
	for _, id := range []uint32{1, 2, 256, 1 << 31, math.MaxUint32} {
		reads(t, "number "+strconv.Itoa(int(id)), sealed(t, page.Frame{Kind: page.Meta, Count: 1, ID: id, Tx: 3, Body: body}), 0, api.ErrPage)
	}
	reads(t, "the number goes ahead of the kind", sealed(t, page.Frame{Kind: page.Leaf, ID: 5}), 0, api.ErrPage)
	reads(t, "the kind goes ahead of the form", sealed(t, page.Frame{Kind: page.Leaf, Count: 9, Tx: 3, Body: "x"}), 0, api.ErrKind)
}

func TestReadOfAnotherForm(t *testing.T) {
	good := page.Frame{Kind: page.Meta, Count: 1, Tx: 3, Body: "taproot!\x00\x00\x00\x02\x00\x00\x00\x03\x00\x00\x00\x04\x00\x00\x00\x00\x00\x00\x00\x05"}
	reads(t, "a good one", sealed(t, good), 0, api.OK)
	for _, count := range []uint16{0, 2, 3, 256, 257, math.MaxUint16} {
		f := good
		f.Count = count
		reads(t, "count "+strconv.Itoa(int(count)), sealed(t, f), 0, api.ErrForm)
		f.Tx = 0
		reads(t, "the count goes ahead of the root", sealed(t, f), 0, api.ErrForm)
	}
	for long := range len(good.Body) {
		f := good
		f.Body = good.Body[:long]
		reads(t, "a body of "+strconv.Itoa(long), sealed(t, f), 0, api.ErrForm)
		f.Tx = 0
		reads(t, "the body goes ahead of the root", sealed(t, f), 0, api.ErrForm)
	}
	for _, more := range []string{"\x00", "x", "\x00\x00\x00\x00", strings.Repeat("\x00", page.Room-len(good.Body))} {
		f := good
		f.Body += more
		reads(t, "a body with more", sealed(t, f), 0, api.ErrForm)
	}
	for i := range 8 {
		for _, b := range []byte{0, 'T', ' ', 255} {
			f := good
			f.Body = good.Body[:i] + string([]byte{b}) + good.Body[i+1:]
			reads(t, "another first byte "+strconv.Itoa(i), sealed(t, f), 0, api.ErrForm)
			f.Tx = 0
			reads(t, "the first bytes go ahead of the root", sealed(t, f), 0, api.ErrForm)
		}
	}
}

func TestPick(t *testing.T) {
	old, young := meta.Root{Tx: 7, High: 9, Data: 3, Clock: 4}, meta.Root{Tx: 8, High: 5, Data: 4, Free: 2, Clock: 1}
	none := meta.Root{}
	picks(t, "the example", api.Page{}, api.Page{}, none, 0, api.ErrMeta)
	picks(t, "the second is greater", made(t, old, 0), made(t, young, 1), young, 1, api.OK)
	picks(t, "the first is greater", made(t, young, 0), made(t, old, 1), young, 0, api.OK)
	same := old
	same.Data, same.Clock = 5, 9
	picks(t, "both are one", made(t, old, 0), made(t, same, 1), old, 0, api.OK)
	picks(t, "both are one, turned", made(t, same, 0), made(t, old, 1), same, 0, api.OK)
	picks(t, "the first alone", made(t, old, 0), api.Page{}, old, 0, api.OK)
	picks(t, "the second alone", api.Page{}, made(t, old, 1), old, 1, api.OK)
	picks(t, "each in the other's place", made(t, old, 1), made(t, young, 0), none, 0, api.ErrMeta)
	picks(t, "the second in the other's place", made(t, old, 0), made(t, young, 0), old, 0, api.OK)
	picks(t, "the first in the other's place", made(t, young, 1), made(t, old, 1), old, 1, api.OK)
	first, last := meta.First(), meta.Root{Tx: math.MaxUint64, High: 2}
	picks(t, "numbers at their ends", made(t, first, 0), made(t, last, 1), last, 1, api.OK)
	picks(t, "numbers at their ends, turned", made(t, last, 0), made(t, first, 1), last, 0, api.OK)
	for i, r := range wrong() {
		r.Tx = max(r.Tx, 1) << 63
		if r.Right() {
			continue
		}
		what := "a greater one that is wrong " + strconv.Itoa(i)
		picks(t, what, byHand(r, 0), made(t, old, 1), old, 1, api.OK)
		picks(t, what, made(t, old, 0), byHand(r, 1), old, 0, api.OK)
		picks(t, what+" twice", byHand(r, 0), byHand(r, 1), none, 0, api.ErrMeta)
	}
}

func TestTurn(t *testing.T) {
	is(t, "of 0", meta.Turn(0), 1)
	is(t, "of 1", meta.Turn(1), 0)
	for _, place := range places() {
		is(t, "of "+strconv.Itoa(place), meta.Turn(place), 0)
	}
}

// spoiled is what may become of a page: some bytes of it, one in a sector or all from somewhere on, are others.
func spoiled(chance *rand.Rand, p, other api.Page) api.Page {
	switch chance.IntN(5) {
	case 0:
		p[chance.IntN(api.PageSize)] ^= byte(1 + chance.IntN(255))
	case 1:
		cut := chance.IntN(api.PageSize)
		copy(p[cut:], other[cut:])
	case 2:
		copy(p[:], other[:chance.IntN(api.PageSize)])
	case 3:
		for range 1 + chance.IntN(40) {
			p[chance.IntN(endAt)] ^= byte(chance.Uint32())
		}
	case 4:
		p = api.Page{}
	}
	return p
}

func TestTheOtherOneIsPicked(t *testing.T) {
	chance := rand.New(rand.NewPCG(3, 4))
	stood, none := 0, 0
	for range 6000 {
		place := chance.IntN(2)
		r := meta.Root{Tx: 2 + chance.Uint64N(4), High: 2 + chance.Uint32N(9), Clock: chance.Uint64N(5)}
		turned := meta.Root{Tx: 1 + chance.Uint64N(5), High: 3, Data: 2}
		pages := [2]api.Page{}
		pages[place] = made(t, r, place)
		other := meta.Turn(place)
		pages[other] = spoiled(chance, made(t, turned, other), made(t, meta.Root{Tx: 9, High: 8, Clock: 7}, other))
		left, e := meta.Read(pages[other], other)
		got, at, f := meta.Pick(pages[0], pages[1])
		is(t, "OK", f, api.OK)
		switch {
		case e != api.OK:
			none++
		case left.Tx < r.Tx:
			stood++
		default:
			continue
		}
		is(t, "the other root", got, r)
		is(t, "its place", at, place)
	}
	is(t, "enough were none", none > 1000, true)
	is(t, "enough were older", stood > 50, true)
}
