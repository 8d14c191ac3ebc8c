package record_test

import (
	"encoding/binary"
	"math"
	"math/rand/v2"
	"slices"
	"strings"
	"testing"

	"taproot/api"
	"taproot/octet"
	"taproot/record"
)

func is[T comparable](t *testing.T, what string, got, want T) {
	t.Helper()
	if got != want {
		t.Errorf("%s: %.200v, wanted %.200v", what, got, want)
	}
}

// laid are bytes laid by hand: a byte, numbers of four or eight bytes, texts.
func laid(parts ...any) string {
	var b []byte
	for _, p := range parts {
		switch p := p.(type) {
		case byte:
			b = append(b, p)
		case uint32:
			b = binary.BigEndian.AppendUint32(b, p)
		case uint64:
			b = binary.BigEndian.AppendUint64(b, p)
		case string:
			b = binary.BigEndian.AppendUint32(b, uint32(len(p)))
			b = append(b, p...)
		}
	}
	return string(b)
}

// read wants bytes to be a thing that would be written so.
func read[T comparable](t *testing.T, c octet.Codec[T], bytes string, want T) {
	t.Helper()
	got, e := c.Read(bytes)
	is(t, "OK", e, api.OK)
	is(t, "read", got, want)
	is(t, "would be written so", c.Bytes(got), bytes)
}

// refused wants bytes to be no thing, by this error.
func refused[T comparable](t *testing.T, c octet.Codec[T], bytes string, want api.Errno) {
	t.Helper()
	var none T
	got, e := c.Read(bytes)
	is(t, "the error", e, want)
	is(t, "beside an error", got, none)
}

func TestVersion(t *testing.T) {
	is(t, "Version", record.Version, 1)
}

func TestQueues(t *testing.T) {
	c := record.Queues("a")
	q := api.Queue{Name: "a", Most: 0x01020304, TTL: 0x05060708090a0b0c, Tries: 0x0d0e0f10, Dead: "dead"}
	is(t, "a queue's bytes", c.Bytes(q), "\x01\x01\x02\x03\x04\x05\x06\x07\x08\x09\x0a\x0b\x0c\x0d\x0e\x0f\x10\x00\x00\x00\x04dead")
	read(t, c, c.Bytes(q), q)
	is(t, "a bare one's", c.Bytes(api.Queue{Name: "a"}), "\x01"+strings.Repeat("\x00", 20))
	read(t, c, c.Bytes(api.Queue{Name: "a"}), api.Queue{Name: "a"})
	for _, dead := range []string{"", "d", "\x00", "\xff\x00\xff", strings.Repeat("d", api.MaxName)} {
		for _, n := range []uint64{0, 1, 1 << 31, math.MaxUint32, 1 << 40, math.MaxUint64} {
			q := api.Queue{Name: "a", Most: uint32(n), TTL: n, Tries: uint32(n) / 3, Dead: dead}
			is(t, "a queue's bytes", c.Bytes(q), laid(byte(1), q.Most, q.TTL, q.Tries, q.Dead))
			read(t, c, c.Bytes(q), q)
		}
	}
}

func TestMessages(t *testing.T) {
	c := record.Messages("a", 7)
	m := api.Message{Queue: "a", ID: 7, Tries: 0x01020304, Expiry: 0x05060708090a0b0c, Body: "hi"}
	is(t, "a message's bytes", c.Bytes(m), "\x01\x01\x02\x03\x04\x05\x06\x07\x08\x09\x0a\x0b\x0c\x00\x00\x00\x02hi")
	read(t, c, c.Bytes(m), m)
	is(t, "a bare one's", c.Bytes(api.Message{Queue: "a", ID: 7}), "\x01"+strings.Repeat("\x00", 16))
	read(t, c, c.Bytes(api.Message{}), api.Message{Queue: "a", ID: 7})
	for _, body := range []string{"", "b", "\x00", "\xff\x00\xff", strings.Repeat("b", 401), strings.Repeat("b", api.MaxBody)} {
		for _, n := range []uint64{0, 1, 1 << 31, math.MaxUint32, 1 << 40, math.MaxUint64} {
			m := api.Message{Queue: "a", ID: 7, Tries: uint32(n), Expiry: n, Body: body}
			is(t, "a message's bytes", c.Bytes(m), laid(byte(1), m.Tries, m.Expiry, m.Body))
			read(t, c, c.Bytes(m), m)
		}
	}
}

func TestCounters(t *testing.T) {
	c := record.Counters()
	is(t, "the example", c.Bytes(1), "\x01\x00\x00\x00\x00\x00\x00\x00\x01")
	for _, n := range []uint64{0, 1, 255, 256, 0x0102030405060708, math.MaxUint64} {
		is(t, "a counter's bytes", c.Bytes(n), laid(byte(1), n))
		read(t, c, c.Bytes(n), n)
	}
}

// The names aren't among the bytes: they are those that the codec was told.
func TestNamesStandInTheKeys(t *testing.T) {
	q := api.Queue{Name: "a", Most: 3}
	is(t, "another queue's codec", record.Queues("b").Bytes(q), record.Queues("a").Bytes(q))
	got, e := record.Queues("b").Read(record.Queues("a").Bytes(q))
	is(t, "OK", e, api.OK)
	is(t, "its own name", got, api.Queue{Name: "b", Most: 3})
	m := api.Message{Queue: "a", ID: 7, Body: "hi"}
	is(t, "another message's codec", record.Messages("b", 8).Bytes(m), record.Messages("a", 7).Bytes(m))
	n, e := record.Messages("b", math.MaxUint64).Read(record.Messages("a", 7).Bytes(m))
	is(t, "OK", e, api.OK)
	is(t, "its own queue and number", n, api.Message{Queue: "b", ID: math.MaxUint64, Body: "hi"})
	long := strings.Repeat("name", 100)
	read(t, record.Queues(long), laid(byte(1), uint32(0), uint64(0), uint32(0), ""), api.Queue{Name: long})
	read(t, record.Messages("", 0), laid(byte(1), uint32(0), uint64(0), ""), api.Message{})
}

func TestTextsThatAreTooLong(t *testing.T) {
	for _, n := range []int{api.MaxName + 1, 100, 70000} {
		dead := strings.Repeat("d", n)
		bytes := laid(byte(1), uint32(0), uint64(0), uint32(0), dead)
		is(t, "it is written all the same", record.Queues("a").Bytes(api.Queue{Dead: dead}), bytes)
		refused(t, record.Queues("a"), bytes, api.ErrLong)
		refused(t, record.Queues("a"), bytes[:21], api.ErrLong)
	}
	for _, n := range []int{api.MaxBody + 1, 70000} {
		body := strings.Repeat("b", n)
		bytes := laid(byte(1), uint32(0), uint64(0), body)
		is(t, "it is written all the same", record.Messages("a", 7).Bytes(api.Message{Body: body}), bytes)
		refused(t, record.Messages("a", 7), bytes, api.ErrLong)
		refused(t, record.Messages("a", 7), bytes[:17], api.ErrLong)
	}
}

// wrong wants all bytes of a thing to be refused that are too few or too many, or of another version.
func wrong[T comparable](t *testing.T, c octet.Codec[T], bytes string) {
	t.Helper()
	for n := range len(bytes) {
		refused(t, c, bytes[:n], api.ErrShort)
	}
	refused(t, c, bytes+"\x00", api.ErrForm)
	refused(t, c, bytes+bytes, api.ErrForm)
	for v := range 256 {
		if v != record.Version {
			refused(t, c, string([]byte{byte(v)})+bytes[1:], api.ErrForm)
			refused(t, c, string([]byte{byte(v)}), api.ErrForm)
		}
	}
}

func TestBytesThatAreNone(t *testing.T) {
	wrong(t, record.Queues("a"), laid(byte(1), uint32(5), uint64(6), uint32(7), "dead"))
	wrong(t, record.Messages("a", 7), laid(byte(1), uint32(5), uint64(6), "body"))
	wrong(t, record.Counters(), laid(byte(1), uint64(6)))
	refused(t, record.Queues("a"), laid(byte(2), uint32(5), uint64(6), uint32(7), strings.Repeat("d", 33)), api.ErrForm)
	refused(t, record.Messages("a", 7), laid(byte(0), uint32(5), uint64(6), strings.Repeat("b", api.MaxBody+1)), api.ErrForm)
}

func TestVersioned(t *testing.T) {
	put := func(s string) string { return octet.Text(s) }
	get := func(r *octet.Reader) string { return r.Text(3) + "!" }
	c := record.Versioned(put, get)
	is(t, "a byte ahead", c.Bytes("abc"), "\x01\x00\x00\x00\x03abc")
	got, e := c.Read("\x01\x00\x00\x00\x03abc")
	is(t, "what get answers", got, "abc!")
	is(t, "OK", e, api.OK)
	for _, bytes := range []string{"\x00", "\x02\x00\x00\x00\x03abc", "\xff"} {
		refused(t, c, bytes, api.ErrForm)
	}
	refused(t, c, "", api.ErrShort)
	refused(t, c, "\x01\x00\x00\x00\x04abcd", api.ErrLong)
	is(t, "what put answers, whatever it is", record.Versioned(func(int) string { return "" }, func(*octet.Reader) int { return 7 }).Bytes(9), "\x01")
	twice := record.Versioned(c.Put, c.Get)
	is(t, "two bytes ahead", twice.Bytes("a"), "\x01\x01\x00\x00\x00\x01a")
	refused(t, twice, "\x01\x02\x00\x00\x00\x01a", api.ErrForm)
}

// An error that the reader had stays, and that of a nil reader is its own.
func TestReadersWithErrors(t *testing.T) {
	c := record.Counters()
	r := octet.Over("\x02\x00\x00")
	r.Fail(api.ErrSum)
	is(t, "zero", c.Get(r), 0)
	is(t, "the first error", r.Err(), api.ErrSum)
	is(t, "nothing is taken", r.Left(), 3)
	is(t, "a nil reader", record.Queues("a").Get(nil), api.Queue{})
	is(t, "a nil reader", record.Messages("a", 7).Get(nil), api.Message{})
	r = octet.Over(laid(byte(1), uint32(5), uint64(6), uint32(7), strings.Repeat("d", 33)))
	is(t, "a Dead that is too long", record.Queues("a").Get(r), api.Queue{})
	is(t, "its error", r.Err(), api.ErrLong)
	r = octet.Over("\x02rest")
	is(t, "zero", c.Get(r), 0)
	is(t, "another version", r.Err(), api.ErrForm)
	is(t, "a version alone was taken", r.Left(), 4)
}

func TestLists(t *testing.T) {
	l := []uint64{3, 0, math.MaxUint64}
	got, e := record.Counters().ReadList(record.Counters().List(l), 3)
	is(t, "OK", e, api.OK)
	is(t, "as they were", slices.Equal(got, l), true)
}

// What is read would be written so, whatever the bytes are.
func TestTurnedBytes(t *testing.T) {
	chance := rand.New(rand.NewPCG(19, 1))
	q := laid(byte(1), uint32(5), uint64(6), uint32(7), "dead")
	m := laid(byte(1), uint32(5), uint64(6), "body")
	turned := func(s string) string {
		b := []byte(s)
		b[chance.IntN(len(b))] = byte(chance.IntN(256))
		return string(b[:len(b)-chance.IntN(2)*chance.IntN(len(b))])
	}
	for range 20000 {
		bytes := turned(q)
		if x, e := record.Queues("a").Read(bytes); e == api.OK {
			is(t, "would be written so", record.Queues("a").Bytes(x), bytes)
			is(t, "its name", x.Name, "a")
		}
		bytes = turned(m)
		if x, e := record.Messages("a", 7).Read(bytes); e == api.OK {
			is(t, "would be written so", record.Messages("a", 7).Bytes(x), bytes)
			is(t, "its number", x.ID, 7)
		}
	}
}
