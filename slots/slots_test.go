package slots_test

import (
	"encoding/binary"
	"math"
	"math/rand/v2"
	"slices"
	"strconv"
	"strings"
	"testing"

	"taproot/api"
	"taproot/octet"
	"taproot/page"
	"taproot/slots"
)

func is[T comparable](t *testing.T, what string, got, want T) {
	t.Helper()
	if got != want {
		t.Errorf("%s: %v, wanted %v", what, got, want)
	}
}

// x is a text of so many bytes.
func x(n int) string { return strings.Repeat("x", n) }

// byHand is a body of cells, as the document tells it.
func byHand(cells ...string) string {
	var begins []byte
	at := 2 * len(cells)
	for _, c := range cells {
		begins = binary.BigEndian.AppendUint16(begins, uint16(at))
		at += len(c)
	}
	return string(begins) + strings.Join(cells, "")
}

// keyed is a key with its count ahead.
func keyed(key string) string { return string([]byte{byte(len(key))}) + key }

// inline is a leaf's cell whose value stands in it.
func inline(key, value string) string {
	return keyed(key) + "\x00" + string(binary.BigEndian.AppendUint16(nil, uint16(len(value)))) + value
}

// chained is one whose value stands in a chain.
func chained(key string, chain, long uint32) string {
	return keyed(key) + "\x01" + string(binary.BigEndian.AppendUint32(binary.BigEndian.AppendUint32(nil, chain), long))
}

// kid is a branch's cell.
func kid(key string, page uint32) string {
	return keyed(key) + string(binary.BigEndian.AppendUint32(nil, page))
}

// laid wants cells to have a body, which is read as they were, and to take as many bytes as it has.
func laid[T comparable](t *testing.T, what string, s slots.Shape[T], l []T, want string) {
	t.Helper()
	was := slices.Clone(l)
	body, e := s.Body(l)
	is(t, what+": Body", e, api.OK)
	is(t, what+": the body", body, want)
	is(t, what+": Sum", s.Sum(l), len(want))
	got, e := s.Read(want, len(l))
	is(t, what+": Read", e, api.OK)
	is(t, what+": the cells", slices.Equal(got, l), true)
	is(t, what+": what was handed in stays", slices.Equal(l, was), true)
}

// refused wants an error of Body, and no body.
func refused[T any](t *testing.T, what string, s slots.Shape[T], l []T, want api.Errno) {
	t.Helper()
	body, e := s.Body(l)
	is(t, what, e, want)
	is(t, what+": beside the error", body, "")
}

// unread wants an error of Read, and no cells.
func unread[T any](t *testing.T, what string, s slots.Shape[T], body string, count int, want api.Errno) {
	t.Helper()
	l, e := s.Read(body, count)
	is(t, what, e, want)
	is(t, what+": beside the error", len(l), 0)
}

func TestLeavesAreLaidAsTold(t *testing.T) {
	s := slots.Leaves()
	is(t, "the example", s.Size(api.Cell{Key: "a", Value: "hi"}), 9)
	laid(t, "none", s, nil, "")
	laid(t, "the example", s, []api.Cell{{Key: "a", Value: "hi"}}, "\x00\x02\x01a\x00\x00\x02hi")
	laid(t, "empty ones", s, []api.Cell{{}}, "\x00\x02\x00\x00\x00\x00")
	laid(t, "a chained one", s, []api.Cell{{Key: "a", Chain: 0x01020304, Long: 0x05060708}}, "\x00\x02\x01a\x01\x01\x02\x03\x04\x05\x06\x07\x08")
	laid(t, "a chain without bytes", s, []api.Cell{{Key: "a", Chain: 1}}, byHand(chained("a", 1, 0)))
	laid(t, "the greatest chain", s, []api.Cell{{Chain: math.MaxUint32, Long: math.MaxUint32}}, byHand(chained("", math.MaxUint32, math.MaxUint32)))
	laid(t, "several", s,
		[]api.Cell{{Key: "", Value: "\x00"}, {Key: "\x00", Chain: 7, Long: 401}, {Key: "a"}, {Key: "a\x00", Value: "hi"}, {Key: "b", Value: x(400)}, {Key: x(255), Value: "\xff"}},
		byHand(inline("", "\x00"), chained("\x00", 7, 401), inline("a", ""), inline("a\x00", "hi"), inline("b", x(400)), inline(x(255), "\xff")))
}

func TestKidsAreLaidAsTold(t *testing.T) {
	s := slots.Kids()
	laid(t, "none", s, nil, "")
	laid(t, "an empty one", s, []slots.Kid{{}}, "\x00\x02\x00\x00\x00\x00\x00")
	laid(t, "one", s, []slots.Kid{{Key: "ab", Page: 0x01020304}}, "\x00\x02\x02ab\x01\x02\x03\x04")
	laid(t, "several", s,
		[]slots.Kid{{"", 9}, {"\x00", 3}, {"a", math.MaxUint32}, {"ab", 3}, {"b", 0}, {x(255), 2}},
		byHand(kid("", 9), kid("\x00", 3), kid("a", math.MaxUint32), kid("ab", 3), kid("b", 0), kid(x(255), 2)))
}

func TestSizesOfLeaves(t *testing.T) {
	s := slots.Leaves()
	sum := 0
	var l []api.Cell
	for _, c := range []struct {
		cell api.Cell
		want int
	}{
		{api.Cell{}, 6},
		{api.Cell{Key: "a", Value: "hi"}, 9},
		{api.Cell{Key: "a", Value: "hi", Long: 77}, 9},
		{api.Cell{Key: "a", Chain: 1, Long: 70000}, 13},
		{api.Cell{Key: x(255), Value: x(400)}, 661},
		{api.Cell{Key: x(255), Chain: 9}, 267},
		{api.Cell{Key: x(256), Value: "hi"}, 263},
		{api.Cell{Key: x(1000), Chain: 9}, 267},
		{api.Cell{Key: "a", Value: x(401)}, 408},
		{api.Cell{Key: "a", Value: x(65535)}, 65542},
		{api.Cell{Key: "a", Value: x(65536)}, 65542},
		{api.Cell{Key: x(300), Value: x(70000)}, 65796},
		{api.Cell{Key: "a", Chain: 1, Value: "counts nothing"}, 13},
	} {
		is(t, "Size", s.Size(c.cell), c.want)
		is(t, "Put", len(s.Put(c.cell)), c.want-2)
		is(t, "Key", s.Key(c.cell), c.cell.Key)
		sum += c.want
		l = append(l, c.cell)
		is(t, "Sum", s.Sum(l), sum)
	}
	is(t, "Sum of none", s.Sum(nil), 0)
	is(t, "what is laid of long ones", s.Put(api.Cell{Key: x(255) + "y", Value: x(65535) + "y"}), "\xff"+x(255)+"\x00\xff\xff"+x(65535))
}

func TestSizesOfKids(t *testing.T) {
	s := slots.Kids()
	is(t, "empty", s.Size(slots.Kid{}), 7)
	is(t, "one", s.Size(slots.Kid{Key: "ab", Page: 7}), 9)
	is(t, "long", s.Size(slots.Kid{Key: x(255)}), 262)
	is(t, "too long", s.Size(slots.Kid{Key: x(256)}), 262)
	is(t, "all", s.Sum([]slots.Kid{{}, {Key: "ab"}, {Key: x(1000)}}), 278)
	is(t, "Key", s.Key(slots.Kid{Key: "ab", Page: 7}), "ab")
	is(t, "what is laid of a long one", s.Put(slots.Kid{Key: x(255) + "y", Page: 1}), "\xff"+x(255)+"\x00\x00\x00\x01")
}

func TestWhatACellsBytesAre(t *testing.T) {
	r := octet.Over(inline("a", "hi") + chained("b", 3, 4) + kid("c", 5) + "rest")
	is(t, "inline", slots.Leaves().Get(r), api.Cell{Key: "a", Value: "hi"})
	is(t, "chained", slots.Leaves().Get(r), api.Cell{Key: "b", Chain: 3, Long: 4})
	is(t, "kid", slots.Kids().Get(r), slots.Kid{Key: "c", Page: 5})
	is(t, "what is left", r.Left(), 4)
	for _, bytes := range []string{"", "\x05abc", "\x01a", "\x01a\x00\x00", "\x01a\x00\x00\x03hi", "\x01a\x01\x00\x00\x00\x01\x00\x00", "\x01a\x02\x00\x00\x00", chained("a", 0, 5)} {
		r := octet.Over(bytes)
		is(t, "beside an error", slots.Leaves().Get(r), api.Cell{})
		is(t, "there is one", r.Err() != api.OK, true)
	}
	for _, bytes := range []string{"", "\x05abc", "\x01a", "\x01a\x00\x00\x00"} {
		r := octet.Over(bytes)
		is(t, "beside an error", slots.Kids().Get(r), slots.Kid{})
		is(t, "there is one", r.Err() != api.OK, true)
	}
	is(t, "of a nil reader", slots.Leaves().Get(nil), api.Cell{})
	is(t, "of a nil reader", slots.Kids().Get(nil), slots.Kid{})
}

func TestBodiesOfWhatIsTooLong(t *testing.T) {
	s := slots.Leaves()
	refused(t, "a key", s, []api.Cell{{Key: x(256)}}, api.ErrLong)
	refused(t, "a chained one's key", s, []api.Cell{{Key: x(256), Chain: 5}}, api.ErrLong)
	refused(t, "a value", s, []api.Cell{{Key: "a", Value: x(401)}}, api.ErrLong)
	refused(t, "a value that fits no count", s, []api.Cell{{Key: "a", Value: x(65536)}}, api.ErrLong)
	refused(t, "a chained one with a byte", s, []api.Cell{{Key: "a", Value: "b", Chain: 5}}, api.ErrLong)
	refused(t, "the last one of several", s, []api.Cell{{Key: "a"}, {Key: "b"}, {Key: "c", Value: x(401)}}, api.ErrLong)
	refused(t, "one behind keys that don't rise", s, []api.Cell{{Key: "b"}, {Key: "a"}, {Key: x(256)}}, api.ErrLong)
	refused(t, "one of too many", s, append(many(11), api.Cell{Key: "z", Value: x(401)}), api.ErrLong)
	laid(t, "what isn't too long", s, []api.Cell{{Key: "a", Value: x(400)}, {Key: x(255)}}, byHand(inline("a", x(400)), inline(x(255), "")))
	refused(t, "a kid's key", slots.Kids(), []slots.Kid{{Key: x(256)}}, api.ErrLong)
	refused(t, "the last of several kids", slots.Kids(), []slots.Kid{{}, {}, {Key: x(256)}}, api.ErrLong)
}

func TestBodiesOfKeysThatDontRise(t *testing.T) {
	for _, keys := range [][]string{{"a", "a"}, {"", ""}, {"b", "a"}, {"a", ""}, {"a", "b", "b"}, {"a", "c", "b"}, {"ab", "a"}, {"\xff", "a"}, {"a\x00", "a"}, {"a", "b", "a"}} {
		var cells []api.Cell
		var kids []slots.Kid
		for i, key := range keys {
			cells = append(cells, api.Cell{Key: key, Value: strconv.Itoa(i)})
			kids = append(kids, slots.Kid{Key: key, Page: uint32(i)})
		}
		refused(t, "cells", slots.Leaves(), cells, api.ErrOrder)
		refused(t, "kids", slots.Kids(), kids, api.ErrOrder)
	}
	refused(t, "ahead of too many", slots.Leaves(), append(many(11), api.Cell{Key: "0"}), api.ErrOrder)
}

// many are cells that take 409 bytes each: more than nine have no room.
func many(n int) []api.Cell {
	l := make([]api.Cell, n)
	for i := range l {
		l[i] = api.Cell{Key: strconv.Itoa(100 + i), Value: x(400)}
	}
	return l
}

func TestBodiesThatAreFull(t *testing.T) {
	s := slots.Leaves()
	is(t, "nine", s.Sum(many(9)), 9*409)
	for rest, want := range map[int]api.Errno{382: api.OK, 383: api.ErrFull, 384: api.ErrFull} {
		l := append(many(9), api.Cell{Key: "200", Value: x(rest)})
		is(t, "bytes", s.Sum(l), 9*409+9+rest)
		body, e := s.Body(l)
		is(t, "a rest of "+strconv.Itoa(rest), e, want)
		is(t, "beside an error", body == "", want != api.OK)
		if want == api.OK {
			is(t, "just full", len(body), page.Room)
			laid(t, "just full", s, l, body)
		}
	}
	refused(t, "very many", s, many(800), api.ErrFull)
	var kids []slots.Kid
	for i := range 452 {
		kids = append(kids, slots.Kid{Key: string([]byte{byte(i >> 8), byte(i)}), Page: uint32(i)})
	}
	body, e := slots.Kids().Body(kids)
	is(t, "452 kids of nine bytes", e, api.OK)
	is(t, "their bytes", len(body), 4068)
	refused(t, "453", slots.Kids(), append(kids, slots.Kid{Key: "zz"}), api.ErrFull)
}

func TestBodiesThatArentAsTold(t *testing.T) {
	a, b := inline("a", "hi"), chained("b", 3, 4)
	for what, c := range map[string]struct {
		body  string
		count int
	}{
		"fewer slots than told":         {byHand(a, b), 1},
		"more slots than told":          {byHand(a, b), 3},
		"none told":                     {byHand(a), 0},
		"below none":                    {byHand(a), -1},
		"below none, of nothing":        {"", -1},
		"the least count":               {"", math.MinInt},
		"the greatest count":            {byHand(a), math.MaxInt},
		"one beyond half of the counts": {byHand(a), math.MaxInt/2 + 2},
		"one of nothing":                {"", 1},
		"half a slot":                   {"\x00", 1},
		"a slot alone":                  {"\x00\x02", 1},
		"a byte behind":                 {byHand(a, b) + "\x00", 2},
		"a byte between":                {"\x00\x04\x00\x0c" + a + "\x00" + b, 2},
		"a byte ahead":                  {"\x00\x05\x00\x0c" + "\x00" + a + b, 2},
		"a byte less":                   {byHand(a, b)[:len(byHand(a, b))-1], 2},
		"a slot too low":                {"\x00\x01" + a, 1},
		"a slot too high":               {"\x00\x03" + a, 1},
		"a slot far too high":           {"\xff\xff" + a, 1},
		"slots turned round":            {"\x00\x0b\x00\x04" + a + b, 2},
		"cells turned round":            {"\x00\x0f\x00\x04" + b + a, 2},
		"one slot twice":                {"\x00\x04\x00\x04" + a + b, 2},
		"a second slot too low":         {"\x00\x04\x00\x0a" + a + b, 2},
		"a second slot too high":        {"\x00\x04\x00\x0c" + a + b, 2},
		"a second slot at the end":      {"\x00\x04\x00\x16" + a + b, 2},
		"a second slot beyond it":       {"\x00\x04\xff\xff" + a + b, 2},
		"another byte than 0 and 1":     {byHand("\x01a\x02\x00\x02hi"), 1},
		"the greatest other byte":       {byHand("\x01a\xff\x00\x00\x00\x01\x00\x00\x00\x02"), 1},
		"a chain 0":                     {byHand(chained("a", 0, 500)), 1},
		"a chain 0 without bytes":       {byHand(a, chained("b", 0, 0)), 2},
		"a key too short":               {byHand("\x05abc"), 1},
		"a value too short":             {byHand("\x01a\x00\x00\x03hi"), 1},
		"half a count":                  {byHand("\x01a\x00\x00"), 1},
		"a chain cut off":               {byHand(b[:len(b)-1]), 1},
		"kids":                          {byHand(kid("", 2), kid("a", 3)), 2},
		"ahead of what is long":         {byHand(inline("a", x(401))) + "\x00", 1},
		"ahead of keys that don't rise": {byHand(b, "\x01a\x02\x00\x00"), 2},
	} {
		unread(t, what, slots.Leaves(), c.body, c.count, api.ErrForm)
	}
	for _, c := range []struct {
		body  string
		count int
	}{{byHand(a), 1}, {byHand(kid("a", 2)), 2}, {byHand(kid("a", 2)) + "\x00", 1}, {byHand(kid("a", 2)[:5]), 1}, {"", 1}, {"", -1}, {"\x00", 0}, {"\x00\x02", 1}, {"\x00\x02\x09abcd", 1}} {
		unread(t, "of kids", slots.Kids(), c.body, c.count, api.ErrForm)
	}
}

func TestBodiesThatAreReadButWouldntBeLaid(t *testing.T) {
	s := slots.Leaves()
	for _, n := range []int{401, 4000, 5000, 65535} {
		unread(t, "a value of "+strconv.Itoa(n), s, byHand(inline("a", x(n))), 1, api.ErrLong)
		unread(t, "ahead of keys that don't rise", s, byHand(inline("b", ""), inline("a", x(n))), 2, api.ErrLong)
	}
	unread(t, "the same key", s, byHand(inline("a", ""), chained("a", 3, 4)), 2, api.ErrOrder)
	unread(t, "a lower key", s, byHand(inline("b", ""), inline("", "")), 2, api.ErrOrder)
	unread(t, "the third key", s, byHand(inline("a", ""), inline("c", ""), inline("b", "")), 3, api.ErrOrder)
	unread(t, "the same kid", slots.Kids(), byHand(kid("", 2), kid("", 2)), 2, api.ErrOrder)
	unread(t, "a lower kid", slots.Kids(), byHand(kid("b", 2), kid("a", 2)), 2, api.ErrOrder)
}

// roomless wants cells to be read of a body that is just as told, though no page has room for it.
func roomless[T comparable](t *testing.T, what string, s slots.Shape[T], l []T, body string) {
	t.Helper()
	is(t, what+": more than the room", len(body) > page.Room, true)
	got, e := s.Read(body, len(l))
	is(t, what+": Read", e, api.OK)
	is(t, what+": the cells", slices.Equal(got, l), true)
	refused(t, what+": Body", s, l, api.ErrFull)
	for _, count := range []int{-1, 0, 1, len(l) - 1, len(l) + 1} {
		unread(t, what+": of "+strconv.Itoa(count), s, body, count, api.ErrForm)
	}
	unread(t, what+": a byte behind", s, body+"\x00", len(l), api.ErrForm)
	unread(t, what+": a byte less", s, body[:len(body)-1], len(l), api.ErrForm)
}

// long are kids with keys of 255 bytes.
func long(n int) ([]slots.Kid, []string) {
	var l []slots.Kid
	var cells []string
	for i := range n {
		k := slots.Kid{Key: strconv.Itoa(100+i) + x(252), Page: uint32(i)}
		l, cells = append(l, k), append(cells, kid(k.Key, k.Page))
	}
	return l, cells
}

func TestBodiesThatNoPageHasRoomForAreRead(t *testing.T) {
	s := slots.Leaves()
	l := append(many(9), api.Cell{Key: "200", Value: x(383)})
	body := bytesOf(l)
	is(t, "a byte more than the room", len(body), page.Room+1)
	roomless(t, "a byte more", s, l, body)
	for _, n := range []int{10, 11, 12, 50, 160} {
		roomless(t, strconv.Itoa(n)+" leaves", s, many(n), bytesOf(many(n)))
	}
	mixed := append(many(12), api.Cell{Key: "200", Chain: 7, Long: 70000}, api.Cell{Key: x(255)})
	roomless(t, "both sorts", s, mixed, bytesOf(mixed))
	for _, n := range []int{16, 20, 250} {
		kids, cells := long(n)
		roomless(t, strconv.Itoa(n)+" kids", slots.Kids(), kids, byHand(cells...))
	}
}

func TestBodiesThatNoPageHasRoomForAreRefusedAsShorterOnes(t *testing.T) {
	s := slots.Leaves()
	full := bytesOf(many(11))
	unread(t, "a slot turned", s, "\x00\x17"+full[2:], 11, api.ErrForm)
	unread(t, "another byte than 0 and 1", s, byHand(append(leavesOf(many(11)), "\x03200\x02\x00\x00")...), 12, api.ErrForm)
	unread(t, "a chain 0", s, byHand(append(leavesOf(many(11)), chained("200", 0, 5))...), 12, api.ErrForm)
	tooLong, tooLow := inline("200", x(401)), inline("0", "")
	unread(t, "a value of 401", s, byHand(append(leavesOf(many(11)), tooLong)...), 12, api.ErrLong)
	unread(t, "a lower key", s, byHand(append(leavesOf(many(11)), tooLow)...), 12, api.ErrOrder)
	unread(t, "the same key", s, byHand(append(leavesOf(many(11)), inline("110", ""))...), 12, api.ErrOrder)
	both := append(leavesOf(many(11)), tooLow, tooLong)
	unread(t, "too long, ahead of the order", s, byHand(both...), 13, api.ErrLong)
	unread(t, "the form, ahead of both", s, byHand(both...)+"\x00", 13, api.ErrForm)
	_, cells := long(20)
	unread(t, "a kid that is lower", slots.Kids(), byHand(append(cells, kid("0", 2))...), 21, api.ErrOrder)
	unread(t, "a kid cut off", slots.Kids(), byHand(append(cells, kid("9", 2)[:5])...), 21, api.ErrForm)
}

func TestCellsThatBeginWhereNoSlotCanTell(t *testing.T) {
	s := slots.Leaves()
	unread(t, "a value beyond", s, byHand(inline("a", x(65535)), inline("b", ""), inline("c", "")), 3, api.ErrForm)
	unread(t, "one cell beyond", s, bytesOf(many(162)), 162, api.ErrForm)
	// With this rest the last cell begins at the last place that a slot can tell.
	l := append(many(160), api.Cell{Key: "900", Value: x(84)}, api.Cell{Key: "901", Value: "hi"})
	is(t, "where it begins", len(bytesOf(l))-len(inline("901", "hi")), math.MaxUint16)
	roomless(t, "the last place", s, l, bytesOf(l))
	l[160].Value += "x"
	unread(t, "one beyond the last place", s, bytesOf(l), 162, api.ErrForm)
	w := words()
	w.Key = func(s string) string { return s[:1] }
	got, e := w.Read(byHand("a", "b"+x(70000)), 2)
	is(t, "a cell that goes on beyond", e, api.OK)
	is(t, "the cells", slices.Equal(got, []string{"a", "b" + x(70000)}), true)
}

// keys are short ones, rising, many of which begin alike.
func keys(chance *rand.Rand, n int) []string {
	var l []string
	for range n {
		b := make([]byte, chance.IntN(4))
		for i := range b {
			b[i] = "\x00\x01ab\xff"[chance.IntN(5)]
		}
		l = append(l, string(b))
	}
	slices.Sort(l)
	return slices.Compact(l)
}

// some are cells of such keys, of both sorts.
func some(chance *rand.Rand, n int) ([]api.Cell, []slots.Kid) {
	var cells []api.Cell
	var kids []slots.Kid
	for _, key := range keys(chance, n) {
		c := api.Cell{Key: key, Value: x(chance.IntN(30))}
		if chance.IntN(2) == 0 {
			c = api.Cell{Key: key, Chain: 1 + chance.Uint32N(3), Long: chance.Uint32()}
		}
		cells = append(cells, c)
		kids = append(kids, slots.Kid{Key: key, Page: chance.Uint32()})
	}
	return cells, kids
}

// bytesOf is the body of cells, by hand.
func bytesOf(cells []api.Cell) string { return byHand(leavesOf(cells)...) }

// leavesOf are cells' bytes, by hand.
func leavesOf(cells []api.Cell) []string {
	var l []string
	for _, c := range cells {
		if c.Chain != 0 {
			l = append(l, chained(c.Key, c.Chain, c.Long))
		} else {
			l = append(l, inline(c.Key, c.Value))
		}
	}
	return l
}

func TestWhatIsLaidIsReadAsItWas(t *testing.T) {
	chance := rand.New(rand.NewPCG(1, 2))
	for range 300 {
		cells, kids := some(chance, chance.IntN(40))
		laid(t, "leaves", slots.Leaves(), cells, bytesOf(cells))
		var l []string
		for _, k := range kids {
			l = append(l, kid(k.Key, k.Page))
		}
		laid(t, "kids", slots.Kids(), kids, byHand(l...))
	}
}

// readOrNot wants what is read of a body to be laid so.
func readOrNot[T any](t *testing.T, s slots.Shape[T], body string, count int) bool {
	t.Helper()
	l, e := s.Read(body, count)
	if e != api.OK {
		is(t, "beside an error", len(l), 0)
		return false
	}
	is(t, "how many", len(l), count)
	again, e := s.Body(l)
	is(t, "Body", e, api.OK)
	is(t, "what is read would be laid so", again, body)
	return true
}

func TestWhatIsReadWouldBeLaidSo(t *testing.T) {
	chance := rand.New(rand.NewPCG(3, 4))
	found := 0
	for range 20000 {
		cells, kids := some(chance, 1+chance.IntN(5))
		bodies := []string{bytesOf(cells)}
		if body, e := slots.Kids().Body(kids); e == api.OK {
			bodies = append(bodies, body)
		}
		for _, body := range bodies {
			b := []byte(body)
			for range 1 + chance.IntN(3) {
				b[chance.IntN(len(b))] = "\x00\x00\x01\x02\x03\x04\x06\x10ab\xff"[chance.IntN(11)]
			}
			if readOrNot(t, slots.Leaves(), string(b), len(cells)) {
				found++
			}
			if readOrNot(t, slots.Kids(), string(b), len(cells)) {
				found++
			}
		}
	}
	is(t, "enough were read", found > 2000, true)
}

func TestWhatIsReadOfMoreThanTheRoomIsThatBody(t *testing.T) {
	chance := rand.New(rand.NewPCG(7, 8))
	s := slots.Leaves()
	mixed := append(many(11), api.Cell{Key: "200", Chain: 7, Long: 70000}, api.Cell{Key: x(255)})
	body := bytesOf(mixed)
	found := 0
	for range 5000 {
		b := []byte(body)
		for range 1 + chance.IntN(3) {
			b[chance.IntN(len(b))] = "\x00\x00\x01\x02\x03\x04\x06\x10ab\xff"[chance.IntN(11)]
		}
		l, e := s.Read(string(b), len(mixed))
		if e != api.OK {
			is(t, "beside an error", len(l), 0)
			continue
		}
		found++
		is(t, "the body", bytesOf(l), string(b))
		refused(t, "Body", s, l, api.ErrFull)
	}
	is(t, "enough were read", found > 1000, true)
}

func TestFind(t *testing.T) {
	s := slots.Kids()
	at, there := s.Find(nil, "a")
	is(t, "of none", at, 0)
	is(t, "it isn't there", there, false)
	l := []slots.Kid{{"", 2}, {"b", 3}, {"d", 4}}
	for key, want := range map[string]int{"": 0, "\x00": 1, "a": 1, "b": 1, "b\x00": 2, "c": 2, "d": 2, "d\x00": 3, "e": 3, "\xff": 3, x(300): 3} {
		at, there := s.Find(l, key)
		is(t, "where "+strconv.Quote(key)+" is", at, want)
		is(t, "is it there", there, key == "" || key == "b" || key == "d")
	}
	chance := rand.New(rand.NewPCG(5, 6))
	for range 500 {
		cells, _ := some(chance, chance.IntN(60))
		for _, key := range keys(chance, 10) {
			at, there := slots.Leaves().Find(cells, key)
			want := 0
			for want < len(cells) && cells[want].Key < key {
				want++
			}
			is(t, "place", at, want)
			is(t, "there", there, want < len(cells) && cells[want].Key == key)
		}
	}
}

// nothing wants a shape to answer that it is none.
func nothing[T any](t *testing.T, s slots.Shape[T], l []T) {
	t.Helper()
	for _, l := range [][]T{nil, l} {
		refused(t, "Body", s, l, api.ErrArg)
		is(t, "Sum", s.Sum(l), 0)
		at, there := s.Find(l, "zz")
		is(t, "Find", at, 0)
		is(t, "is it there", there, false)
	}
	is(t, "Size", s.Size(l[0]), 0)
	unread(t, "Read of nothing", s, "", 0, api.ErrArg)
	unread(t, "Read of what is none", s, "abc", -1, api.ErrArg)
	unread(t, "Read", s, byHand(inline("a", "")), 1, api.ErrArg)
}

func TestShapesWithoutAFunction(t *testing.T) {
	cells := []api.Cell{{Key: "a"}, {Key: "b"}}
	nothing(t, slots.Shape[api.Cell]{}, cells)
	nothing(t, slots.Shape[string]{}, []string{"a"})
	for i := range 3 {
		s, k := slots.Leaves(), slots.Kids()
		switch i {
		case 0:
			s.Put, k.Put = nil, nil
		case 1:
			s.Get, k.Get = nil, nil
		case 2:
			s.Key, k.Key = nil, nil
		}
		nothing(t, s, cells)
		nothing(t, k, []slots.Kid{{}, {Key: "a"}})
	}
}

// words are cells of a sort of their own: each takes all bytes up to the next slot.
func words() slots.Shape[string] {
	return slots.Shape[string]{
		Put: func(s string) string { return s },
		Get: func(r *octet.Reader) string { return r.Take(r.Left()) },
		Key: func(s string) string { return s },
	}
}

func TestShapesOfOtherSorts(t *testing.T) {
	s := words()
	laid(t, "words", s, []string{"", "a", "ab", "c"}, byHand("", "a", "ab", "c"))
	is(t, "Size", s.Size("ab"), 4)
	at, there := s.Find([]string{"a", "c"}, "b")
	is(t, "Find", at, 1)
	is(t, "is it there", there, false)
	refused(t, "a long key", s, []string{x(256)}, api.ErrLong)
	refused(t, "keys that don't rise", s, []string{"b", "a"}, api.ErrOrder)
	unread(t, "a long key", s, byHand(x(256)), 1, api.ErrLong)
	unread(t, "keys that don't rise", s, byHand("b", "a"), 2, api.ErrOrder)
	unread(t, "slots that are none", s, "\x00\x05\x00\x04abc", 2, api.ErrForm)
	s.Get = func(r *octet.Reader) string { return strings.ToLower(r.Take(r.Left())) }
	unread(t, "what wouldn't be laid so", s, byHand("A", "b"), 2, api.ErrForm)
	s.Get = func(r *octet.Reader) string { r.Fail(api.ErrRange); return "a" }
	unread(t, "what fails", s, byHand("a"), 1, api.ErrForm)
}

func TestFunctionsThatPanic(t *testing.T) {
	s := words()
	s.Put = func(s string) string { return s[1:] }
	is(t, "Size", s.Size(""), 2)
	is(t, "Sum", s.Sum([]string{"", "abc"}), 6)
	s = words()
	s.Get = func(r *octet.Reader) string { return "ab"[r.Left():] }
	unread(t, "Read", s, byHand("abc"), 1, api.ErrForm)
	s = words()
	s.Key = func(s string) string { return s[1:] }
	refused(t, "two keys that are none", s, []string{"", ""}, api.ErrOrder)
	at, there := s.Find([]string{"", "ab", "ac"}, "b")
	is(t, "Find", at, 1)
	is(t, "is it there", there, true)
}

func TestAnswersShareNothing(t *testing.T) {
	s := slots.Leaves()
	body := byHand(inline("a", "hi"), inline("b", ""))
	a, _ := s.Read(body, 2)
	b, _ := s.Read(body, 2)
	a[0].Key = "z"
	is(t, "the other one", b[0].Key, "a")
	room := []api.Cell{{Key: "a"}, {Key: "b"}, {Key: "spare"}}
	s.Body(room[:2])
	s.Sum(room[:2])
	s.Find(room[:2], "z")
	is(t, "room", slices.Equal(room, []api.Cell{{Key: "a"}, {Key: "b"}, {Key: "spare"}}), true)
}
