package command_test

import (
	"math/rand/v2"
	"slices"
	"strings"
	"testing"

	"taproot/api"
	"taproot/command"
	"taproot/octet"
)

func TestRead(t *testing.T) {
	all := ""
	for _, kind := range kinds() {
		all += bytes(filled(kind))
	}
	r := octet.Over(all + "rest")
	for _, kind := range kinds() {
		is(t, "the command that stands next", command.Read(r), filled(kind))
		is(t, "OK", r.Err(), api.OK)
	}
	is(t, "no more is taken", r.Take(4), "rest")
	is(t, "End", r.End(), api.OK)
}

func TestReadersWithErrors(t *testing.T) {
	for _, kind := range kinds() {
		s := bytes(filled(kind))
		r := octet.Over(s)
		r.Fail(api.ErrSum)
		is(t, "zero", command.Read(r), command.Command{})
		is(t, "the first error stays", r.Err(), api.ErrSum)
		is(t, "nothing is taken", r.Left(), len(s))
		r = octet.Over(s[:len(s)-1])
		is(t, "zero", command.Read(r), command.Command{})
		is(t, "too short", r.Err(), api.ErrShort)
		is(t, "zero behind it", command.Read(r), command.Command{})
		is(t, "the first error stays", r.Err(), api.ErrShort)
	}
	is(t, "of a nil reader", command.Read(nil), command.Command{})
	r := octet.Over("\x0erest")
	is(t, "zero", command.Read(r), command.Command{})
	is(t, "no such kind", r.Err(), api.ErrKind)
	is(t, "the kind alone was taken", r.Left(), 4)
	r = octet.Over("\x02\x00\x00\x00\x21rest")
	is(t, "zero", command.Read(r), command.Command{})
	is(t, "too long", r.Err(), api.ErrLong)
	is(t, "its number was taken", r.Left(), 4)
	c := command.Command{Kind: command.Nack}
	r = octet.Over(bytes(c)[:21] + "\x02rest")
	is(t, "zero", command.Read(r), command.Command{})
	is(t, "neither 0 nor 1", r.Err(), api.ErrForm)
}

func TestBytesThatAreNone(t *testing.T) {
	none(t, "nothing", "", api.ErrShort)
	for _, kind := range kinds() {
		for _, c := range []command.Command{{Kind: kind}, filled(kind)} {
			s := bytes(c)
			for n := range len(s) {
				none(t, "too short", s[:n], api.ErrShort)
			}
			none(t, "a byte is left", s+"\x00", api.ErrForm)
			none(t, "a command is left", s+s, api.ErrForm)
			none(t, "no such kind is left", s+"\xff", api.ErrForm)
			for _, b := range kindsThatAreNone() {
				none(t, "no such kind", string([]byte{b})+s[1:], api.ErrKind)
			}
		}
	}
	for _, b := range kindsThatAreNone() {
		none(t, "no such kind", string([]byte{b}), api.ErrKind)
	}
}

// kindsThatAreNone are the bytes that are no kind.
func kindsThatAreNone() []byte {
	l := []byte{0}
	for b := byte(14); b != 0; b++ {
		l = append(l, b)
	}
	return l
}

func TestBytesOfDead(t *testing.T) {
	for _, c := range []command.Command{{Kind: command.Nack}, filled(command.Nack)} {
		s := bytes(c)
		s = s[:len(s)-1]
		for b := range 256 {
			text := s + string([]byte{byte(b)})
			if b > 1 {
				none(t, "neither 0 nor 1", text, api.ErrForm)
				none(t, "and a byte is left", text+"\x01", api.ErrForm)
				continue
			}
			got, e := command.Parse(text)
			is(t, "OK", e, api.OK)
			is(t, "Dead", got.Dead, b == 1)
		}
	}
}

// many are so many commands, of all kinds.
func many(n int) []command.Command {
	l := make([]command.Command, n)
	for i := range l {
		l[i] = filled(i%13 + 1)
	}
	return l
}

// batch is a batch's bytes, laid by hand.
func batch(l []command.Command) string {
	s := laid(uint32(len(l)))
	for _, c := range l {
		s += bytes(c)
	}
	return s
}

func TestBatches(t *testing.T) {
	for _, n := range []int{0, 1, 2, 13, 63, 64} {
		l := many(n)
		s, e := command.Batch(l)
		is(t, "OK", e, api.OK)
		is(t, "bytes", s, batch(l))
		got, e := command.ParseBatch(s)
		is(t, "OK", e, api.OK)
		is(t, "as they were", slices.Equal(got, l), true)
	}
	s, e := command.Batch(nil)
	is(t, "OK", e, api.OK)
	is(t, "of none", s, "\x00\x00\x00\x00")
}

func TestBatchesThatAreNone(t *testing.T) {
	long := command.Command{Kind: command.Publish, Body: strings.Repeat("b", api.MaxBody+1)}
	form := command.Command{Kind: command.Tick, Dead: true}
	for _, w := range []struct {
		l    []command.Command
		want api.Errno
	}{
		{many(65), api.ErrMany},
		{many(1000), api.ErrMany},
		{append([]command.Command{{}, form, long}, many(62)...), api.ErrMany},
		{append(many(64), form), api.ErrMany},
		{make([]command.Command, 65), api.ErrMany},
		{append(many(63), form), api.ErrForm},
		{append(many(63), long), api.ErrLong},
		{append(many(63), command.Command{}), api.ErrKind},
		{[]command.Command{long, form, {}}, api.ErrLong},
		{[]command.Command{form, {}, long}, api.ErrForm},
		{[]command.Command{{}, long, form}, api.ErrKind},
	} {
		s, e := command.Batch(w.l)
		is(t, "the first error", e, w.want)
		is(t, "beside it", s, "")
	}
}

func TestBytesThatAreNoBatch(t *testing.T) {
	refused := func(what, s string, want api.Errno) {
		t.Helper()
		l, e := command.ParseBatch(s)
		is(t, what+": the error", e, want)
		is(t, what+": beside it", len(l), 0)
	}
	refused("more than may be", batch(many(65)), api.ErrMany)
	refused("the number is enough", laid(uint32(65)), api.ErrMany)
	refused("ahead of a kind that is none", laid(uint32(65))+"\xff", api.ErrMany)
	refused("the greatest number", "\xff\xff\xff\xff", api.ErrMany)
	refused("fewer than are told", laid(uint32(64))+batch(many(63))[4:], api.ErrShort)
	s := batch(many(13))
	for n := range len(s) {
		refused("cut off", s[:n], api.ErrShort)
	}
	refused("a byte is left", s+"\x00", api.ErrForm)
	refused("a command is left", s+bytes(filled(1)), api.ErrForm)
	refused("a byte behind none", laid(uint32(0))+"\x00", api.ErrForm)
	refused("no such kind", laid(uint32(3))+bytes(filled(11))+"\x0e"+bytes(filled(11))[1:]+bytes(filled(11)), api.ErrKind)
	refused("too long", laid(uint32(2))+bytes(filled(11))+"\x02\x00\x00\x00\x21", api.ErrLong)
	nack := bytes(filled(command.Nack))
	refused("neither 0 nor 1", laid(uint32(2))+nack[:len(nack)-1]+"\x02"+nack, api.ErrForm)
	refused("the first error", laid(uint32(2))+nack[:len(nack)-1]+"\x02\x0e", api.ErrForm)
	refused("the first error", laid(uint32(2))+"\x0e"+nack[:len(nack)-1]+"\x02", api.ErrKind)
}

func TestMemory(t *testing.T) {
	room := many(9)
	was := slices.Clone(room)
	s, _ := command.Batch(room[:5])
	is(t, "what is handed in stays", slices.Equal(room, was), true)
	a, _ := command.ParseBatch(s)
	a[0] = command.Command{}
	_ = append(a[:4], command.Command{})
	b, _ := command.ParseBatch(s)
	is(t, "the second answer", slices.Equal(b, was[:5]), true)
}

// What is written is read as it was.
func TestByChance(t *testing.T) {
	d := rand.New(rand.NewPCG(24, 1))
	for range 300 {
		l := make([]command.Command, d.IntN(65))
		for i := range l {
			l[i] = some(d)
			s := written(t, l[i])
			is(t, "bytes", s, bytes(l[i]))
			c, e := command.Parse(s)
			is(t, "OK", e, api.OK)
			is(t, "as it was", c, l[i])
		}
		s, e := command.Batch(l)
		is(t, "OK", e, api.OK)
		is(t, "bytes", s, batch(l))
		got, e := command.ParseBatch(s)
		is(t, "OK", e, api.OK)
		is(t, "as they were", slices.Equal(got, l), true)
		if t.Failed() {
			t.FailNow()
		}
	}
}

// What is read would be written so, whatever the bytes are: here of commands of which some bytes are others, or gone, or there twice.
func TestTurnedBytes(t *testing.T) {
	d := rand.New(rand.NewPCG(24, 2))
	read := 0
	for range 40000 {
		s := []byte(bytes(some(d)))
		at := d.IntN(min(len(s), 60))
		switch d.IntN(4) {
		case 0:
			s[at] = byte(d.IntN(256))
		case 1:
			s[at] = byte(d.IntN(15))
		case 2:
			s = slices.Delete(s, at, at+1)
		case 3:
			s = slices.Insert(s, at, s[at])
		}
		c, e := command.Parse(string(s))
		if e != api.OK {
			is(t, "beside an error", c, command.Command{})
			is(t, "one of those that are told", slices.Contains([]api.Errno{api.ErrShort, api.ErrForm, api.ErrLong, api.ErrKind}, e), true)
			continue
		}
		read++
		is(t, "would be written so", written(t, c), string(s))
	}
	if read < 1000 {
		t.Errorf("only %d were commands", read)
	}
}
