package command_test

import (
	"math"
	"slices"
	"strings"
	"testing"

	"taproot/api"
	"taproot/command"
)

func TestKinds(t *testing.T) {
	names := []string{"declare", "drop", "bind", "unbind", "publish", "deliver", "ack", "nack", "extend", "purge", "tick", "stat", "browse"}
	numbers := []int{command.Declare, command.Drop, command.Bind, command.Unbind, command.Publish, command.Deliver, command.Ack, command.Nack, command.Extend, command.Purge, command.Tick, command.Stat, command.Browse}
	row := command.Kinds()
	for range 2 {
		n := 0
		for kind, name := range row {
			is(t, "a kind", kind, n+1)
			is(t, "its number", numbers[n], kind)
			is(t, "its name", name, names[n])
			n++
		}
		is(t, "how many", n, 13)
	}
	for most := 1; most <= 13; most++ {
		n := 0
		for range row {
			n++
			if n == most {
				break
			}
		}
		is(t, "left", n, most)
	}
}

func TestBytes(t *testing.T) {
	q := api.Queue{Name: "a"}
	b := api.Binding{Exchange: "x", Kind: 3, Key: "k.#", Queue: "a"}
	const x, aa = "\x00\x00\x00\x01x", "\x00\x00\x00\x01a"
	const one, two, three = "\x00\x00\x00\x00\x00\x00\x00\x01", "\x01\x02\x03\x04\x05\x06\x07\x08", "\xff\xfe\xfd\xfc\xfb\xfa\xf9\xf8"
	const second, third = 0x0102030405060708, 0xfffefdfcfbfaf9f8
	for _, w := range []struct {
		c    command.Command
		want string
	}{
		{command.Command{Kind: 1, Queue: api.Queue{Name: "a", Most: 0x01020304, TTL: second, Tries: 0x0d0e0f10, Dead: "dead"}}, "\x01" + aa + "\x01\x02\x03\x04" + two + "\x0d\x0e\x0f\x10\x00\x00\x00\x04dead"},
		{command.Command{Kind: 2, Queue: q}, "\x02" + aa},
		{command.Command{Kind: 3, Binding: b}, "\x03" + x + "\x03\x00\x00\x00\x03k.#" + aa},
		{command.Command{Kind: 4, Binding: b}, "\x04" + x + "\x03\x00\x00\x00\x03k.#" + aa},
		{command.Command{Kind: 5, Exchange: "x", Key: "k", Body: "hi", Time: second}, "\x05" + x + "\x00\x00\x00\x01k\x00\x00\x00\x02hi" + two},
		{command.Command{Kind: 6, Queue: q, N: second, Time: third}, "\x06" + aa + two + three},
		{command.Command{Kind: 7, Queue: q, ID: second, Token: third}, "\x07" + aa + two + three},
		{command.Command{Kind: 8, Queue: q, ID: second, Token: third, Dead: true}, "\x08" + aa + two + three + "\x01"},
		{command.Command{Kind: 8, Queue: q, ID: third, Token: 1}, "\x08" + aa + three + one + "\x00"},
		{command.Command{Kind: 9, Queue: q, ID: 1, Token: second, Time: third}, "\x09" + aa + one + two + three},
		{command.Command{Kind: 10, Queue: q}, "\x0a" + aa},
		{command.Command{Kind: 11, Time: 1}, "\x0b" + one},
		{command.Command{Kind: 12, Queue: q}, "\x0c" + aa},
		{command.Command{Kind: 13, Queue: q, ID: second, N: third}, "\x0d" + aa + two + three},
	} {
		is(t, "bytes", written(t, w.c), w.want)
		c, e := command.Parse(w.want)
		is(t, "OK", e, api.OK)
		is(t, "as it was", c, w.c)
	}
}

func TestBareCommands(t *testing.T) {
	long := map[int]int{1: 24, 2: 4, 3: 13, 4: 13, 5: 20, 6: 20, 7: 20, 8: 21, 9: 28, 10: 4, 11: 8, 12: 4, 13: 20}
	for _, kind := range kinds() {
		c := command.Command{Kind: kind}
		s := string([]byte{byte(kind)}) + strings.Repeat("\x00", long[kind])
		is(t, "bytes", written(t, c), s)
		got, e := command.Parse(s)
		is(t, "OK", e, api.OK)
		is(t, "as it was", got, c)
	}
}

func TestWhatAKindDoesntTell(t *testing.T) {
	for _, kind := range kinds() {
		for _, p := range places() {
			c := command.Command{Kind: kind}
			p.fill(&c)
			if slices.Contains(tells(kind), p.name) {
				is(t, p.name, written(t, c), bytes(c))
				continue
			}
			refused(t, p.name, c, api.ErrForm)
			c = filled(kind)
			is(t, "all that it tells", written(t, c), bytes(c))
			p.fill(&c)
			refused(t, p.name+" beside all that it tells", c, api.ErrForm)
		}
	}
}

func TestKindsOfBindings(t *testing.T) {
	for _, kind := range []int{command.Bind, command.Unbind} {
		for b := range 256 {
			c := command.Command{Kind: kind, Binding: api.Binding{Exchange: "x", Kind: b, Key: "k", Queue: "q"}}
			s := written(t, c)
			is(t, "bytes", s, bytes(c))
			got, e := command.Parse(s)
			is(t, "OK", e, api.OK)
			is(t, "as it was", got, c)
		}
		for _, b := range []int{-1, -255, -256, 256, 257, 259, 1 << 16, 1<<32 + 1, math.MaxInt, math.MinInt} {
			refused(t, "a kind that isn't a byte", command.Command{Kind: kind, Binding: api.Binding{Exchange: "x", Kind: b, Key: "k", Queue: "q"}}, api.ErrForm)
			refused(t, "a kind of nothing", command.Command{Kind: kind, Binding: api.Binding{Kind: b}}, api.ErrForm)
			refused(t, "ahead of what is too long", command.Command{Kind: kind, Binding: api.Binding{Exchange: strings.Repeat("x", 33), Kind: b}}, api.ErrForm)
			refused(t, "a kind that isn't told", command.Command{Kind: command.Stat, Binding: api.Binding{Kind: b}}, api.ErrForm)
		}
	}
}

func TestNoSuchKind(t *testing.T) {
	for _, kind := range []int{0, -1, -243, 14, 15, 255, 256, 257, 256 + 13, 1<<32 + 1, 1<<63 - 1, math.MinInt, math.MinInt + 1} {
		refused(t, "of nothing", command.Command{Kind: kind}, api.ErrKind)
		refused(t, "ahead of what isn't told, and of what is too long", command.Command{Kind: kind, Binding: api.Binding{Exchange: strings.Repeat("x", 33), Kind: -1}, Body: strings.Repeat("b", 40000), Dead: true}, api.ErrKind)
	}
}

func TestTextsThatAreTooLong(t *testing.T) {
	for _, kind := range kinds() {
		for _, p := range places() {
			if p.text == nil || !slices.Contains(tells(kind), p.name) {
				continue
			}
			c := filled(kind)
			for _, n := range []int{0, p.most - 1, p.most} {
				p.text(&c, strings.Repeat("t", n))
				s := written(t, c)
				is(t, "bytes", s, bytes(c))
				got, e := command.Parse(s)
				is(t, "OK", e, api.OK)
				is(t, "as it was", got, c)
			}
			for _, n := range []int{p.most + 1, p.most + 256, 70000} {
				p.text(&c, strings.Repeat("t", n))
				refused(t, p.name, c, api.ErrLong)
				none(t, p.name, bytes(c), api.ErrLong)
				at := strings.Index(bytes(c), strings.Repeat("t", n))
				none(t, p.name+": its number is enough", bytes(c)[:at], api.ErrLong)
				none(t, p.name+": less isn't", bytes(c)[:at-1], api.ErrShort)
				none(t, p.name+" ahead of bytes that are left", bytes(c)+"\x00", api.ErrLong)
			}
			for _, q := range places() {
				if !slices.Contains(tells(kind), q.name) {
					d := c
					q.fill(&d)
					refused(t, q.name+" ahead of "+p.name, d, api.ErrForm)
				}
			}
		}
	}
}

func TestTextsOfAnyBytes(t *testing.T) {
	for _, s := range []string{"\x00", "\xff\x00\xff", "a.b #*\n\"\\", "\xe2\x82", "\x00\x00\x00\x01"} {
		for _, kind := range kinds() {
			for _, p := range places() {
				if p.text != nil && slices.Contains(tells(kind), p.name) {
					c := filled(kind)
					p.text(&c, s)
					is(t, "bytes", written(t, c), bytes(c))
					got, e := command.Parse(bytes(c))
					is(t, "OK", e, api.OK)
					is(t, "as it was", got, c)
				}
			}
		}
	}
}
