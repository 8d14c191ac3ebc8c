package octet_test

import (
	"encoding/binary"
	"math"
	"math/rand/v2"
	"slices"
	"strconv"
	"strings"
	"testing"

	"taproot/api"
	"taproot/octet"
)

func is[T comparable](t *testing.T, what string, got, want T) {
	t.Helper()
	if got != want {
		t.Errorf("%s: %v, wanted %v", what, got, want)
	}
}

// numbers are those at which a number of bytes, a half of it or its highest bit ends, and some others.
func numbers() []uint64 {
	l := []uint64{0, 258, 0x0102030405060708, 0xf1e2d3c4b5a69788}
	for bits := range 64 {
		l = append(l, 1<<bits-1, 1<<bits, 1<<bits+1)
	}
	return append(l, math.MaxUint64)
}

// texts are of lengths about those at which one more byte tells the length, and of all bytes.
func texts() []string {
	l := []string{"", "a", "\x00", "\xff", "\x00\x00\x00\x00", "two words", strings.Repeat("x", 255), strings.Repeat("y", 256), strings.Repeat("\x00", 1<<16+1)}
	all := make([]byte, 256)
	for i := range all {
		all[i] = byte(i)
	}
	return append(l, string(all))
}

func TestNumbersAreWritten(t *testing.T) {
	for _, n := range numbers() {
		is(t, "One", octet.One(uint8(n)), string([]byte{byte(n)}))
		is(t, "Two", octet.Two(uint16(n)), string(binary.BigEndian.AppendUint16(nil, uint16(n))))
		is(t, "Four", octet.Four(uint32(n)), string(binary.BigEndian.AppendUint32(nil, uint32(n))))
		is(t, "Eight", octet.Eight(n), string(binary.BigEndian.AppendUint64(nil, n)))
	}
	is(t, "the example", octet.Four(258), "\x00\x00\x01\x02")
}

func TestTextsAreWritten(t *testing.T) {
	is(t, "none", octet.Text(""), "\x00\x00\x00\x00")
	is(t, "hi", octet.Text("hi"), "\x00\x00\x00\x02hi")
	for _, s := range texts() {
		is(t, "a text", octet.Text(s), string(binary.BigEndian.AppendUint32(nil, uint32(len(s))))+s)
	}
}

func TestNumbersAreRead(t *testing.T) {
	for _, n := range numbers() {
		bytes := octet.One(uint8(n)) + octet.Two(uint16(n)) + octet.Four(uint32(n)) + octet.Eight(n)
		r := octet.Over(bytes + "rest")
		is(t, "left ahead", r.Left(), 19)
		is(t, "One", r.One(), uint8(n))
		is(t, "left behind One", r.Left(), 18)
		is(t, "Two", r.Two(), uint16(n))
		is(t, "left behind Two", r.Left(), 16)
		is(t, "Four", r.Four(), uint32(n))
		is(t, "left behind Four", r.Left(), 12)
		is(t, "Eight", r.Eight(), n)
		is(t, "left behind Eight", r.Left(), 4)
		is(t, "what is left", r.Take(4), "rest")
		is(t, "Err", r.Err(), api.OK)
		is(t, "End", r.End(), api.OK)
	}
}

func TestTextsAreRead(t *testing.T) {
	for _, s := range texts() {
		for _, most := range []int{len(s), len(s) + 1, math.MaxInt} {
			r := octet.Over(octet.Text(s) + "behind")
			is(t, "a text", r.Text(most), s)
			is(t, "left", r.Left(), 6)
			is(t, "Err", r.Err(), api.OK)
		}
	}
}

func TestTake(t *testing.T) {
	r := octet.Over("abc")
	is(t, "nothing", r.Take(0), "")
	is(t, "two", r.Take(2), "ab")
	is(t, "left", r.Left(), 1)
	is(t, "one", r.Take(1), "c")
	is(t, "nothing at the end", r.Take(0), "")
	is(t, "End", r.End(), api.OK)
}

// takes are all calls that take bytes, with how many they take at least; each answers whether it was zero.
func takes() map[string]func(*octet.Reader) bool {
	return map[string]func(*octet.Reader) bool{
		"One":   func(r *octet.Reader) bool { return r.One() == 0 },
		"Two":   func(r *octet.Reader) bool { return r.Two() == 0 },
		"Four":  func(r *octet.Reader) bool { return r.Four() == 0 },
		"Eight": func(r *octet.Reader) bool { return r.Eight() == 0 },
		"Text":  func(r *octet.Reader) bool { return r.Text(100) == "" },
		"Take":  func(r *octet.Reader) bool { return r.Take(3) == "" },
		"none":  func(r *octet.Reader) bool { return r.Take(0) == "" },
	}
}

func TestTooShort(t *testing.T) {
	least := map[string]int{"One": 1, "Two": 2, "Four": 4, "Eight": 8, "Text": 4, "Take": 3}
	for name, bytes := range least {
		take := takes()[name]
		for n := range bytes {
			r := octet.Over(strings.Repeat("\xff", n))
			is(t, name+" is zero", take(r), true)
			is(t, name+"'s error", r.Err(), api.ErrShort)
			is(t, name+"'s end", r.End(), api.ErrShort)
			is(t, name+" leaves", r.Left(), n)
		}
	}
}

func TestTakeBelowNothing(t *testing.T) {
	for _, n := range []int{-1, math.MinInt} {
		r := octet.Over("abc")
		is(t, "bytes", r.Take(n), "")
		is(t, "error", r.Err(), api.ErrShort)
	}
	r := octet.Over("abc")
	is(t, "bytes", r.Take(math.MaxInt), "")
	is(t, "error", r.Err(), api.ErrShort)
}

func TestTextTooShortOrTooLong(t *testing.T) {
	for _, c := range []struct {
		bytes string
		most  int
		want  api.Errno
	}{
		{"\x00\x00\x00\x03ab", 3, api.ErrShort},
		{"\x00\x00\x00\x03ab", 2, api.ErrLong}, // the number is enough to tell
		{"\x00\x00\x00\x03abc", 2, api.ErrLong},
		{"\x00\x00\x00\x03", 2, api.ErrLong},
		{"\xff\xff\xff\xffabc", math.MaxInt, api.ErrShort},
		{"\xff\xff\xff\xffabc", 1 << 20, api.ErrLong},
		{"\x80\x00\x00\x00abc", 1 << 20, api.ErrLong},
		{"\x00\x00\x00\x01a", 0, api.ErrLong},
		{"\x00\x00\x00\x01a", -1, api.ErrLong},
		{"\x00\x00\x00\x01a", math.MinInt, api.ErrLong},
		{"\x00\x00\x00", -1, api.ErrShort},
	} {
		r := octet.Over(c.bytes)
		is(t, "a text", r.Text(c.most), "")
		is(t, "its error", r.Err(), c.want)
	}
	for _, most := range []int{0, -1, math.MinInt} {
		r := octet.Over("\x00\x00\x00\x00")
		is(t, "the empty text", r.Text(most), "")
		is(t, "End", r.End(), api.OK)
	}
}

func TestWithAnErrorNothingIsTaken(t *testing.T) {
	for name, take := range takes() {
		r := octet.Over(octet.Text("some bytes that are there"))
		r.Fail(api.ErrRange)
		left := r.Left()
		is(t, name+" is zero", take(r), true)
		is(t, name+" leaves all", r.Left(), left)
		is(t, name+" leaves the error", r.Err(), api.ErrRange)
		is(t, name+" leaves the end", r.End(), api.ErrRange)
	}
	r := octet.Over("abc")
	r.Four()
	is(t, "One behind Four", r.One(), 0)
	r.Take(-1)
	is(t, "left", r.Left(), 3)
	is(t, "the error", r.Err(), api.ErrShort)
}

func TestTheFirstErrorStays(t *testing.T) {
	r := octet.Over("")
	r.Fail(api.OK)
	is(t, "OK", r.Err(), api.OK)
	r.Fail(api.ErrKind)
	is(t, "the first one", r.Err(), api.ErrKind)
	r.Fail(api.ErrForm)
	r.Fail(api.OK)
	r.One()
	is(t, "the first one stays", r.Err(), api.ErrKind)
	r = octet.Over("\x00\x00\x00\x09")
	r.Text(3)
	r.One()
	is(t, "ErrLong stays", r.Err(), api.ErrLong)
}

func TestEnd(t *testing.T) {
	r := octet.Over("ab")
	is(t, "bytes are left", r.End(), api.ErrForm)
	is(t, "which is no error of the reader's", r.Err(), api.OK)
	is(t, "so that more is taken", r.Take(2), "ab")
	is(t, "nothing is left", r.End(), api.OK)
	is(t, "of nothing", octet.Over("").End(), api.OK)
	r = octet.Over("ab")
	r.Fail(api.ErrSum)
	is(t, "an error goes ahead of bytes that are left", r.End(), api.ErrSum)
}

func TestNilReader(t *testing.T) {
	var r *octet.Reader
	for name, take := range takes() {
		is(t, name+" is zero", take(r), true)
	}
	r.Fail(api.ErrForm)
	is(t, "Left", r.Left(), 0)
	is(t, "Err", r.Err(), api.ErrNil)
	is(t, "End", r.End(), api.ErrNil)
}

func TestTwoReadersOfOneText(t *testing.T) {
	a, b := octet.Over("abc"), octet.Over("abc")
	a.Take(2)
	a.Fail(api.ErrForm)
	is(t, "left of the other one", b.Left(), 3)
	is(t, "its error", b.Err(), api.OK)
}

// thing is something of more than one part, one of them of any length.
type thing struct {
	n    uint16
	name string
}

func things() octet.Codec[thing] {
	return octet.Codec[thing]{
		Put: func(x thing) string { return octet.Two(x.n) + octet.Text(x.name) },
		Get: func(r *octet.Reader) thing { return thing{n: r.Two(), name: r.Text(5)} },
	}
}

func TestCodecOfOne(t *testing.T) {
	c := things()
	is(t, "bytes", c.Bytes(thing{258, "ab"}), "\x01\x02\x00\x00\x00\x02ab")
	x, e := c.Read("\x01\x02\x00\x00\x00\x02ab")
	is(t, "the thing", x, thing{258, "ab"})
	is(t, "OK", e, api.OK)
	for bytes, want := range map[string]api.Errno{
		"":                                  api.ErrShort,
		"\x01":                              api.ErrShort,
		"\x01\x02\x00\x00\x00\x02a":         api.ErrShort,
		"\x01\x02\x00\x00\x00\x06ab":        api.ErrLong,
		"\x01\x02\x00\x00\x00\x02abc":       api.ErrForm,
		"\x01\x02\x00\x00\x00\x02ab\x00":    api.ErrForm,
		"\x01\x02\x00\x00\x00\x06abcdefgh":  api.ErrLong,
		"\x01\x02\xff\xff\xff\xffabcdefghi": api.ErrLong,
	} {
		x, e := c.Read(bytes)
		is(t, "beside an error", x, thing{})
		is(t, strconv.Quote(bytes), e, want)
	}
}

func TestCodecOfMany(t *testing.T) {
	c := things()
	l := []thing{{1, "a"}, {}, {65535, "abcde"}, {1, "a"}}
	bytes := c.List(l)
	is(t, "bytes", bytes, "\x00\x00\x00\x04"+c.Bytes(l[0])+c.Bytes(l[1])+c.Bytes(l[2])+c.Bytes(l[3]))
	for _, most := range []int{4, 5, math.MaxInt} {
		got, e := c.ReadList(bytes, most)
		is(t, "as many as may be", slices.Equal(got, l), true)
		is(t, "OK", e, api.OK)
	}
	is(t, "none", c.List(nil), "\x00\x00\x00\x00")
	for _, most := range []int{0, -1, math.MinInt, 7} {
		got, e := c.ReadList("\x00\x00\x00\x00", most)
		is(t, "none", len(got), 0)
		is(t, "OK", e, api.OK)
	}
}

func TestListsThatAreNone(t *testing.T) {
	c := things()
	for _, w := range []struct {
		bytes string
		most  int
		want  api.Errno
	}{
		{"", 9, api.ErrShort},
		{"\x00\x00\x00", 9, api.ErrShort},
		{"\x00\x00\x00", -1, api.ErrShort},
		{"\x00\x00\x00\x01", 9, api.ErrShort},
		{c.List([]thing{{1, "a"}, {2, "b"}}), 1, api.ErrMany},
		{c.List([]thing{{1, "a"}}), 0, api.ErrMany},
		{c.List([]thing{{1, "a"}}), -1, api.ErrMany},
		{c.List([]thing{{1, "a"}}), math.MinInt, api.ErrMany},
		{"\x00\x00\x00\x02", 1, api.ErrMany}, // the number is enough to tell
		{"\xff\xff\xff\xff", 1 << 20, api.ErrMany},
		{"\xff\xff\xff\xff", math.MaxInt, api.ErrShort},
		{c.List([]thing{{1, "a"}, {2, "b"}})[:12], 9, api.ErrShort},
		{c.List([]thing{{1, "a"}}) + "\x00", 9, api.ErrForm},
		{c.List([]thing{{1, "a"}, {2, "abcdef"}, {3, "c"}}), 9, api.ErrLong},
	} {
		got, e := c.ReadList(w.bytes, w.most)
		is(t, "beside an error", len(got), 0)
		is(t, strconv.Quote(w.bytes), e, w.want)
	}
}

func TestTheReadersErrorIsTheCodecs(t *testing.T) {
	c := octet.Codec[uint8]{
		Put: octet.One,
		Get: func(r *octet.Reader) uint8 {
			n := r.One()
			if n > 100 {
				r.Fail(api.ErrRange)
			}
			return n
		},
	}
	n, e := c.Read("\x64")
	is(t, "OK", e, api.OK)
	is(t, "100", n, 100)
	n, e = c.Read("\x65")
	is(t, "101", e, api.ErrRange)
	is(t, "none", n, 0)
	_, e = c.Read("\x65\x65")
	is(t, "ahead of bytes that are left", e, api.ErrRange)
	l, e := c.ReadList("\x00\x00\x00\x03\x01\x65\x02", 9)
	is(t, "of a list", e, api.ErrRange)
	is(t, "no list", len(l), 0)
	l, e = c.ReadList("\x00\x00\x00\x03\x01\x65", 9)
	is(t, "the first error", e, api.ErrRange)
	is(t, "no list", len(l), 0)
}

func TestBehindAnErrorNoMoreThingsAreAskedFor(t *testing.T) {
	asked := 0
	c := octet.Codec[uint8]{Get: func(r *octet.Reader) uint8 { asked++; return r.One() }}
	_, e := c.ReadList("\xff\xff\xff\xff\x01\x02", math.MaxInt)
	is(t, "error", e, api.ErrShort)
	is(t, "asked", asked, 3)
}

func TestCodecWithoutFunctions(t *testing.T) {
	var c octet.Codec[thing]
	is(t, "Bytes", c.Bytes(thing{1, "a"}), "")
	is(t, "List", c.List(make([]thing, 3)), "\x00\x00\x00\x03")
	for _, bytes := range []string{"", "\x00", "\x00\x00\x00\x00", "\x00\x00\x00\x05abc"} {
		x, e := c.Read(bytes)
		is(t, "Read's thing", x, thing{})
		is(t, "Read", e, api.ErrArg)
		l, e := c.ReadList(bytes, 1)
		is(t, "ReadList's things", len(l), 0)
		is(t, "ReadList", e, api.ErrArg)
	}
	c.Get = things().Get
	is(t, "Bytes of one that reads alone", c.Bytes(thing{1, "a"}), "")
	x, e := c.Read(things().Bytes(thing{1, "a"}))
	is(t, "what it reads", x, thing{1, "a"})
	is(t, "OK", e, api.OK)
	c = octet.Codec[thing]{Put: things().Put}
	_, e = c.Read(c.Bytes(thing{1, "a"}))
	is(t, "Read of one that writes alone", e, api.ErrArg)
}

func TestFunctionsThatPanic(t *testing.T) {
	c := octet.Codec[thing]{
		Put: func(x thing) string { return "abc"[x.n:] },
		Get: func(r *octet.Reader) thing { return thing{name: "abc"[r.One():]} },
	}
	is(t, "Bytes", c.Bytes(thing{n: 9}), "")
	is(t, "List", c.List([]thing{{n: 1}, {n: 9}, {n: 2}}), "\x00\x00\x00\x03bcc")
	x, e := c.Read("\x01")
	is(t, "what doesn't panic", x.name, "bc")
	is(t, "OK", e, api.OK)
	x, e = c.Read("\x09")
	is(t, "beside an error", x, thing{})
	is(t, "Read", e, api.ErrArg)
	l, e := c.ReadList("\x00\x00\x00\x02\x01\x09", 9)
	is(t, "beside an error", len(l), 0)
	is(t, "ReadList", e, api.ErrArg)
}

func TestWhatIsHandedInStays(t *testing.T) {
	c := octet.Codec[thing]{Put: func(x thing) string { return x.name }}
	room := []thing{{1, "a"}, {2, "b"}, {3, "spare"}}
	c.List(room[:2])
	is(t, "room", slices.Equal(room, []thing{{1, "a"}, {2, "b"}, {3, "spare"}}), true)
}

func TestListsOfAnswersShareNothing(t *testing.T) {
	c := things()
	bytes := c.List([]thing{{1, "a"}, {2, "b"}, {3, "c"}})
	a, _ := c.ReadList(bytes, 9)
	a[0].n = 77
	b, _ := c.ReadList(bytes, 9)
	is(t, "the second answer", b[0], thing{1, "a"})
}

func TestWhatIsWrittenIsReadAsItWas(t *testing.T) {
	chance := rand.New(rand.NewPCG(3, 4))
	c := octet.Codec[thing]{
		Put: func(x thing) string { return octet.Text(x.name) + octet.Two(x.n) },
		Get: func(r *octet.Reader) thing { s := r.Text(1 << 20); return thing{r.Two(), s} },
	}
	for range 200 {
		l := make([]thing, chance.IntN(20))
		for i := range l {
			name := make([]byte, chance.IntN(300))
			for j := range name {
				name[j] = byte(chance.Uint32())
			}
			l[i] = thing{uint16(chance.Uint32()), string(name)}
		}
		got, e := c.ReadList(c.List(l), len(l))
		is(t, "OK", e, api.OK)
		is(t, "the same", slices.Equal(got, l), true)
		for _, x := range l {
			y, e := c.Read(c.Bytes(x))
			is(t, "OK", e, api.OK)
			is(t, "the same", y, x)
		}
	}
}
