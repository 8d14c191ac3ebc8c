package dump_test

import (
	"math"
	"slices"
	"strings"
	"testing"

	"taproot/api"
	"taproot/dump"
)

// read wants bytes to be a dump.
func read(t *testing.T, what, bytes string, want dump.Dump) {
	t.Helper()
	d, e := dump.Parse(bytes)
	is(t, what+": Parse", e, api.OK)
	same(t, what, d, want)
}

// refused wants bytes to be none.
func refused(t *testing.T, what, bytes string, want api.Errno) {
	t.Helper()
	d, e := dump.Parse(bytes)
	is(t, what+": Parse", e, want)
	same(t, what+": beside an error", d, dump.Dump{})
}

func TestBytesOfNothing(t *testing.T) {
	is(t, "the example", dump.Dump{}.Bytes(), strings.Repeat("\x00", 28))
	read(t, "the example", strings.Repeat("\x00", 28), dump.Dump{})
	is(t, "no list, and an empty one", dump.Dump{Queues: []api.Queue{}}.Bytes(), strings.Repeat("\x00", 28))
}

func TestBytes(t *testing.T) {
	d := dump.Dump{
		Clock: 1, Last: 2,
		Queues:   []api.Queue{{Name: "a", Most: 3, TTL: 4, Tries: 5, Dead: "dd"}},
		Bindings: []api.Binding{binding("x", 6, "kk", "qqq")},
		Messages: []api.Message{{Queue: "m", ID: 7, Tries: 8, Expiry: 9, Body: "hi"}},
	}
	byHand := "\x00\x00\x00\x00\x00\x00\x00\x01" + "\x00\x00\x00\x00\x00\x00\x00\x02" +
		"\x00\x00\x00\x01" + "\x00\x00\x00\x01a" + "\x00\x00\x00\x17" + "\x01\x00\x00\x00\x03\x00\x00\x00\x00\x00\x00\x00\x04\x00\x00\x00\x05\x00\x00\x00\x02dd" +
		"\x00\x00\x00\x01" + "\x00\x00\x00\x01x" + "\x00\x00\x00\x00\x00\x00\x00\x06" + "\x00\x00\x00\x02kk" + "\x00\x00\x00\x03qqq" +
		"\x00\x00\x00\x01" + "\x00\x00\x00\x01m" + "\x00\x00\x00\x00\x00\x00\x00\x07" + "\x00\x00\x00\x13" + "\x01\x00\x00\x00\x08\x00\x00\x00\x00\x00\x00\x00\x09\x00\x00\x00\x02hi"
	is(t, "by hand", d.Bytes(), byHand)
	read(t, "by hand", byHand, d)
	is(t, "some", some().Bytes(), bytesOf(some()))
	read(t, "some", bytesOf(some()), some())
	for what, change := range changes() {
		x := some()
		change(&x)
		is(t, what, x.Bytes(), bytesOf(x))
		if what != "a kind" { // one below 0 isn't read
			read(t, what, bytesOf(x), x)
		}
	}
}

// Whatever a dump tells is written, and what may be read is read as it was, right or not.
func TestBytesOfWhatIsNotRight(t *testing.T) {
	long := strings.Repeat("l", api.MaxValue)
	all := "\x00\xff\x80 \"\\\n"
	d := dump.Dump{
		Clock: math.MaxUint64, Last: math.MaxUint64,
		Queues:   []api.Queue{{Name: long, Most: math.MaxUint32, TTL: math.MaxUint64, Tries: math.MaxUint32, Dead: strings.Repeat("d", api.MaxName)}, {Name: "b"}, {}, {Name: "b"}, {Name: all, Dead: all}},
		Bindings: []api.Binding{binding(long, 0, long, long), {}, {}, binding(all, math.MaxInt32, all, all)},
		Messages: []api.Message{{Queue: long, ID: math.MaxUint64, Tries: math.MaxUint32, Expiry: math.MaxUint64, Body: strings.Repeat("b", api.MaxBody)}, {}, {}, {Queue: all, Body: all}},
	}
	is(t, "bytes", d.Bytes(), bytesOf(d))
	read(t, "read", bytesOf(d), d)
}

func TestKinds(t *testing.T) {
	of := func(kind int) dump.Dump {
		return dump.Dump{Bindings: []api.Binding{binding("x", kind, "k", "q")}}
	}
	for kind, bytes := range map[int]string{
		1: "\x00\x00\x00\x00\x00\x00\x00\x01", 256: "\x00\x00\x00\x00\x00\x00\x01\x00", math.MaxInt32: "\x00\x00\x00\x00\x7f\xff\xff\xff",
		math.MaxInt32 + 1: "\x00\x00\x00\x00\x80\x00\x00\x00", 1 << 32: "\x00\x00\x00\x01\x00\x00\x00\x00", 1<<32 + 1: "\x00\x00\x00\x01\x00\x00\x00\x01",
		math.MaxInt: "\x7f\xff\xff\xff\xff\xff\xff\xff", math.MinInt: "\x80\x00\x00\x00\x00\x00\x00\x00", -1: "\xff\xff\xff\xff\xff\xff\xff\xff", -256: "\xff\xff\xff\xff\xff\xff\xff\x00",
	} {
		whole := strings.Repeat("\x00", 20) + "\x00\x00\x00\x01\x00\x00\x00\x01x" + bytes + "\x00\x00\x00\x01k\x00\x00\x00\x01q\x00\x00\x00\x00"
		is(t, "written", of(kind).Bytes(), whole)
		if 0 <= kind && kind <= math.MaxInt32 {
			read(t, "a kind", whole, of(kind))
		} else {
			refused(t, "a kind", whole, api.ErrForm)
		}
	}
}

// Each part of the bytes is needed, and no more.
func TestParseTooShort(t *testing.T) {
	d := some()
	d.Messages[4].Body = "short"
	bytes := d.Bytes()
	for n := range len(bytes) {
		refused(t, "cut off", bytes[:n], api.ErrShort)
	}
	refused(t, "too long", bytes+"\x00", api.ErrForm)
	refused(t, "twice", bytes+bytes, api.ErrForm)
	refused(t, "none", "", api.ErrShort)
	refused(t, "one more", strings.Repeat("\x00", 29), api.ErrForm)
	refused(t, "one less", strings.Repeat("\x00", 27), api.ErrShort)
}

// most are as many of one sort as may be, and one more isn't.
func TestParseMany(t *testing.T) {
	const most = 1 << 16
	for _, d := range []dump.Dump{
		{Queues: slices.Repeat([]api.Queue{{Name: "q"}}, most)}, {Bindings: slices.Repeat([]api.Binding{binding("x", 1, "k", "q")}, most)}, {Messages: slices.Repeat([]api.Message{{Queue: "q", ID: 1}}, most)},
	} {
		bytes := d.Bytes()
		read(t, "as many as may be", bytes, d)
		d.Queues = append(d.Queues, slices.Repeat([]api.Queue{{}}, len(d.Queues)/most)...)
		d.Bindings = append(d.Bindings, slices.Repeat([]api.Binding{{}}, len(d.Bindings)/most)...)
		d.Messages = append(d.Messages, slices.Repeat([]api.Message{{}}, len(d.Messages)/most)...)
		refused(t, "one more", d.Bytes(), api.ErrMany)
	}
	for _, n := range []uint32{most + 1, 1 << 17, 1 << 31, math.MaxUint32} {
		refused(t, "many queues, and none", wrote(uint64(0), uint64(0), n), api.ErrMany)
		refused(t, "many bindings, and none", wrote(uint64(0), uint64(0), uint32(0), n), api.ErrMany)
		refused(t, "many messages, and none", wrote(uint64(0), uint64(0), uint32(0), uint32(0), n), api.ErrMany)
	}
	refused(t, "as many as may be, and none", wrote(uint64(0), uint64(0), uint32(most)), api.ErrShort)
	refused(t, "three of a sort that aren't there", wrote(uint64(0), uint64(0), uint32(0), uint32(0), uint32(3), "q"), api.ErrShort)
}

// ahead is what stands in front of the first thing of a sort.
func ahead(sort int) string {
	return wrote(uint64(0), uint64(0)) + strings.Repeat("\x00\x00\x00\x00", sort) + wrote(uint32(1))
}

func TestParseLongTexts(t *testing.T) {
	long := strings.Repeat("l", api.MaxValue+1)
	queue, kind, id := queueBytes(api.Queue{}), uint64(1), uint64(1)
	for what, bytes := range map[string]string{
		"a queue's name":      ahead(0) + wrote(long, queue),
		"a queue's bytes":     ahead(0) + wrote("q", long),
		"an exchange":         ahead(1) + wrote(long, kind, "k", "q"),
		"a key":               ahead(1) + wrote("x", kind, long, "q"),
		"a binding's queue":   ahead(1) + wrote("x", kind, "k", long),
		"a message's queue":   ahead(2) + wrote(long, id, messageBytes(api.Message{})),
		"a message's bytes":   ahead(2) + wrote("q", id, long),
		"a name, known early": ahead(0) + "\x00\x01\x00\x01",
		"bytes, known early":  ahead(0) + wrote("q") + "\xff\xff\xff\xff",
		"a body that is long": ahead(2) + wrote("q", id, messageBytes(api.Message{Body: strings.Repeat("b", api.MaxBody+1)})),
		"a Dead that is long": ahead(0) + wrote("q", queueBytes(api.Queue{Dead: strings.Repeat("d", api.MaxName+1)})),
	} {
		refused(t, what, bytes+strings.Repeat("\x00", 8), api.ErrLong)
	}
	// What is written with so long a text isn't read.
	refused(t, "a name", dump.Dump{Queues: []api.Queue{{Name: long}}}.Bytes(), api.ErrLong)
	refused(t, "a body", dump.Dump{Messages: []api.Message{{Body: long}}}.Bytes(), api.ErrLong)
}

// What stands in a text must be layer 19's, to its end.
func TestParseBroken(t *testing.T) {
	for what, x := range map[string]struct{ front, right, long, rest string }{
		"a queue":   {ahead(0) + wrote("q"), queueBytes(api.Queue{Dead: "d"}), queueBytes(api.Queue{})[:17] + "\xff\xff\xff\xffd", "\x00\x00\x00\x00\x00\x00\x00\x00"},
		"a message": {ahead(2) + wrote("q", uint64(1)), messageBytes(api.Message{Body: "hi"}), messageBytes(api.Message{})[:13] + "\xff\xff\xff\xffhi", ""},
	} {
		_, e := dump.Parse(x.front + wrote(x.right) + x.rest)
		is(t, what+", right", e, api.OK)
		for n := range len(x.right) {
			refused(t, what+", too short", x.front+wrote(x.right[:n])+x.rest, api.ErrShort)
		}
		for bytes, want := range map[string]api.Errno{
			x.right + "\x00": api.ErrForm, "\x00" + x.right[1:]: api.ErrForm, "\x02" + x.right[1:]: api.ErrForm, "\x02": api.ErrForm, "hi": api.ErrForm, x.long: api.ErrLong,
		} {
			refused(t, what+", broken", x.front+wrote(bytes)+x.rest, want)
		}
	}
}

// What is met first, from the front on, is told.
func TestParseFirstError(t *testing.T) {
	long := strings.Repeat("l", api.MaxValue+1)
	queue, bad := queueBytes(api.Queue{}), uint64(math.MaxInt32+1)
	for what, x := range map[string]struct {
		bytes string
		want  api.Errno
	}{
		"an exchange ahead of its kind":             {ahead(1) + wrote(long, bad), api.ErrLong},
		"an exchange that is short ahead of all":    {ahead(1) + "\x00\x00\x00\x09x", api.ErrShort},
		"a kind ahead of a key":                     {ahead(1) + wrote("x", bad, long), api.ErrForm},
		"a kind ahead of a queue":                   {ahead(1) + wrote("x", bad, "k", long), api.ErrForm},
		"a kind ahead of what isn't there":          {ahead(1) + wrote("x", bad), api.ErrForm},
		"a kind that isn't all there":               {ahead(1) + wrote("x") + "\xff\xff\xff\xff\xff\xff\xff", api.ErrShort},
		"a key ahead of a queue":                    {ahead(1) + wrote("x", uint64(1), long) + "\x00", api.ErrLong},
		"a queue ahead of the next one":             {ahead(0)[:16] + wrote(uint32(2), "q", "hi", long), api.ErrForm},
		"a name ahead of its bytes":                 {ahead(0) + wrote(long, "hi"), api.ErrLong},
		"a queue's bytes ahead of many bindings":    {ahead(0) + wrote("q", "\x01", uint32(1<<20)), api.ErrShort},
		"many bindings ahead of a message":          {ahead(0) + wrote("q", queue, uint32(1<<20), uint32(1), long), api.ErrMany},
		"many queues ahead of a short one":          {wrote(uint64(0), uint64(0), uint32(1<<20), long), api.ErrMany},
		"a short queue ahead of a long one":         {ahead(0)[:16] + wrote(uint32(2), "q", "\x01", "q", long), api.ErrShort},
		"a message's bytes ahead of what is left":   {ahead(2) + wrote("q", uint64(1), "hi") + "rest", api.ErrForm},
		"a message's queue ahead of its number":     {ahead(2) + wrote(long), api.ErrLong},
		"a number that isn't all there":             {ahead(2) + wrote("q") + "\x00\x00\x00\x00\x00\x00\x00", api.ErrShort},
		"a message's bytes that are short ahead":    {ahead(2) + wrote("q", uint64(1), "\x01") + "rest", api.ErrShort},
		"a last number that isn't all there":        {"\x00\x00\x00\x00\x00\x00\x00\x00\xff", api.ErrShort},
		"a binding's second kind behind a long key": {ahead(0)[:16] + wrote(uint32(0), uint32(2), "x", uint64(1), long, "q", "x", bad), api.ErrLong},
	} {
		refused(t, what, x.bytes, x.want)
	}
}
