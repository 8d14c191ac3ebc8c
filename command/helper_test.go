package command_test

import (
	"encoding/binary"
	"math"
	"math/rand/v2"
	"slices"
	"strings"
	"testing"

	"taproot/api"
	"taproot/command"
)

func is[T comparable](t *testing.T, what string, got, want T) {
	t.Helper()
	if got != want {
		t.Errorf("%s: %.300v, wanted %.300v", what, got, want)
	}
}

// laid are bytes laid by hand: a byte, numbers of four or eight bytes, texts.
func laid(parts ...any) string {
	var b []byte
	for _, p := range parts {
		switch p := p.(type) {
		case byte:
			b = append(b, p)
		case uint32:
			b = binary.BigEndian.AppendUint32(b, p)
		case uint64:
			b = binary.BigEndian.AppendUint64(b, p)
		case string:
			b = binary.BigEndian.AppendUint32(b, uint32(len(p)))
			b = append(b, p...)
		}
	}
	return string(b)
}

// bytes are a command's, laid by hand.
func bytes(c command.Command) string {
	kind, q, b, truth := byte(c.Kind), c.Queue, c.Binding, byte(0)
	if c.Dead {
		truth = 1
	}
	switch c.Kind {
	case 1:
		return laid(kind, q.Name, q.Most, q.TTL, q.Tries, q.Dead)
	case 3, 4:
		return laid(kind, b.Exchange, byte(b.Kind), b.Key, b.Queue)
	case 5:
		return laid(kind, c.Exchange, c.Key, c.Body, c.Time)
	case 6:
		return laid(kind, q.Name, c.N, c.Time)
	case 7:
		return laid(kind, q.Name, c.ID, c.Token)
	case 8:
		return laid(kind, q.Name, c.ID, c.Token, truth)
	case 9:
		return laid(kind, q.Name, c.ID, c.Token, c.Time)
	case 11:
		return laid(kind, c.Time)
	case 13:
		return laid(kind, q.Name, c.ID, c.N)
	}
	return laid(kind, q.Name) // 2, 10, 12
}

// place is a part of a command: what it is called, how to make it another one than zero, and how to make it a text, if it is one.
type place struct {
	name string
	fill func(c *command.Command)
	text func(c *command.Command, s string)
	most int // bytes of the text
}

// places are all parts but the kind.
func places() []place {
	text := func(name string, most int, set func(c *command.Command, s string)) place {
		return place{name, func(c *command.Command) { set(c, "t") }, set, most}
	}
	number := func(name string, fill func(c *command.Command)) place { return place{name: name, fill: fill} }
	return []place{
		text("queue", 32, func(c *command.Command, s string) { c.Queue.Name = s }),
		number("most", func(c *command.Command) { c.Queue.Most = 1 }),
		number("ttl", func(c *command.Command) { c.Queue.TTL = 1 }),
		number("tries", func(c *command.Command) { c.Queue.Tries = 1 }),
		text("dead queue", 32, func(c *command.Command, s string) { c.Queue.Dead = s }),
		text("binding's exchange", 32, func(c *command.Command, s string) { c.Binding.Exchange = s }),
		number("binding's kind", func(c *command.Command) { c.Binding.Kind = 1 }),
		text("binding's key", 512, func(c *command.Command, s string) { c.Binding.Key = s }),
		text("binding's queue", 32, func(c *command.Command, s string) { c.Binding.Queue = s }),
		text("exchange", 32, func(c *command.Command, s string) { c.Exchange = s }),
		text("key", 512, func(c *command.Command, s string) { c.Key = s }),
		text("body", 32768, func(c *command.Command, s string) { c.Body = s }),
		number("id", func(c *command.Command) { c.ID = 1 }),
		number("token", func(c *command.Command) { c.Token = 1 }),
		number("n", func(c *command.Command) { c.N = 1 }),
		number("time", func(c *command.Command) { c.Time = 1 }),
		number("dead", func(c *command.Command) { c.Dead = true }),
	}
}

// tells are the names of the parts that each kind tells.
func tells(kind int) []string {
	switch kind {
	case command.Declare:
		return []string{"queue", "most", "ttl", "tries", "dead queue"}
	case command.Bind, command.Unbind:
		return []string{"binding's exchange", "binding's kind", "binding's key", "binding's queue"}
	case command.Publish:
		return []string{"exchange", "key", "body", "time"}
	case command.Deliver:
		return []string{"queue", "n", "time"}
	case command.Ack:
		return []string{"queue", "id", "token"}
	case command.Nack:
		return []string{"queue", "id", "token", "dead"}
	case command.Extend:
		return []string{"queue", "id", "token", "time"}
	case command.Tick:
		return []string{"time"}
	case command.Browse:
		return []string{"queue", "id", "n"}
	}
	return []string{"queue"} // Drop, Purge, Stat
}

// kinds are all that there are.
func kinds() []int {
	var l []int
	for kind := command.Declare; kind <= command.Browse; kind++ {
		l = append(l, kind)
	}
	return l
}

// filled is a command of a kind whose parts are such as aren't zero.
func filled(kind int) command.Command {
	c := command.Command{Kind: kind}
	for _, p := range places() {
		if slices.Contains(tells(kind), p.name) {
			p.fill(&c)
		}
	}
	return c
}

// wild is some number, often at an end.
func wild(d *rand.Rand) uint64 {
	ends := []uint64{0, 1, 255, 256, math.MaxUint32, 1 << 32, api.MaxTime, math.MaxInt64, 1 << 63, math.MaxUint64}
	if n := d.IntN(2 * len(ends)); n < len(ends) {
		return ends[n]
	}
	return d.Uint64()
}

// word is some text of at most so many bytes, often at an end.
func word(d *rand.Rand, most int) string {
	switch d.IntN(5) {
	case 0:
		return ""
	case 1:
		return strings.Repeat("w", most)
	}
	b := make([]byte, d.IntN(min(most, 600)+1))
	for i := range b {
		b[i] = byte(d.Uint32())
	}
	return string(b)
}

// some is a command, whatever its kind tells.
func some(d *rand.Rand) command.Command {
	all := command.Command{
		Queue:    api.Queue{Name: word(d, 32), Most: uint32(wild(d)), TTL: wild(d), Tries: uint32(wild(d)), Dead: word(d, 32)},
		Binding:  api.Binding{Exchange: word(d, 32), Kind: d.IntN(256), Key: word(d, 512), Queue: word(d, 32)},
		Exchange: word(d, 32), Key: word(d, 512), Body: word(d, 32768),
		ID: wild(d), Token: wild(d), N: wild(d), Time: wild(d), Dead: d.IntN(2) == 0,
	}
	kind := kinds()[d.IntN(13)]
	c := command.Command{Kind: kind}
	switch kind {
	case command.Declare:
		c.Queue = all.Queue
	case command.Bind, command.Unbind:
		c.Binding = all.Binding
	case command.Publish:
		c.Exchange, c.Key, c.Body, c.Time = all.Exchange, all.Key, all.Body, all.Time
	case command.Tick:
		c.Time = all.Time
	case command.Deliver:
		c.Queue.Name, c.N, c.Time = all.Queue.Name, all.N, all.Time
	case command.Ack:
		c.Queue.Name, c.ID, c.Token = all.Queue.Name, all.ID, all.Token
	case command.Nack:
		c.Queue.Name, c.ID, c.Token, c.Dead = all.Queue.Name, all.ID, all.Token, all.Dead
	case command.Extend:
		c.Queue.Name, c.ID, c.Token, c.Time = all.Queue.Name, all.ID, all.Token, all.Time
	case command.Browse:
		c.Queue.Name, c.ID, c.N = all.Queue.Name, all.ID, all.N
	default:
		c.Queue.Name = all.Queue.Name
	}
	return c
}

// written wants a command to have bytes.
func written(t *testing.T, c command.Command) string {
	t.Helper()
	s, e := command.Bytes(c)
	is(t, "OK", e, api.OK)
	return s
}

// refused wants a command to have none, by this error.
func refused(t *testing.T, what string, c command.Command, want api.Errno) {
	t.Helper()
	s, e := command.Bytes(c)
	is(t, what+": the error", e, want)
	is(t, what+": beside it", s, "")
	s, e = command.Batch([]command.Command{{Kind: command.Stat}, c, {}})
	is(t, what+": a batch's error", e, want)
	is(t, what+": beside it", s, "")
}

// none wants bytes to be no command, by this error.
func none(t *testing.T, what, s string, want api.Errno) {
	t.Helper()
	c, e := command.Parse(s)
	is(t, what+": the error", e, want)
	is(t, what+": beside it", c, command.Command{})
}
