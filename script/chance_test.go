package script_test

import (
	"fmt"
	"math/rand/v2"
	"strings"
	"testing"

	"taproot/api"
	"taproot/command"
	"taproot/disk"
	"taproot/script"
	"taproot/session"
)

// one is any of some things.
func one[T any](r *rand.Rand, l ...T) T { return l[r.IntN(len(l))] }

// quoted is a text as the chapter tells it, byte by byte.
func quoted(s string) string {
	text := ""
	for i := range len(s) {
		switch b := s[i]; {
		case b == 34 || b == 92:
			text += "\\" + string(rune(b))
		case b == 10:
			text += "\\n"
		case b >= 32 && b <= 126:
			text += string(rune(b))
		default:
			text += fmt.Sprintf("\\x%02x", b)
		}
	}
	return "\"" + text + "\""
}

// bytes are any, of which some are more likely.
func bytes(r *rand.Rand, most int) string {
	b := make([]byte, r.IntN(most+1))
	for i := range b {
		b[i] = one(r, byte(r.IntN(256)), byte(' '+r.IntN(95)), '"', '\\', '\n', 'x', 'n', ' ', '0')
	}
	return string(b)
}

// number is any of 64 bits, of which short ones are more likely.
func number(r *rand.Rand) uint64 { return r.Uint64() >> r.IntN(65) }

// drawn is any line, and what it is.
func drawn(r *rand.Rand) (script.Line, string) {
	l := script.Line{Kind: 1 + r.IntN(19)}
	c := command.Command{Kind: l.Kind}
	c.Queue.Name = bytes(r, 32)
	text := quoted(c.Queue.Name)
	switch l.Kind {
	case 1:
		c.Queue.Most, c.Queue.TTL, c.Queue.Tries, c.Queue.Dead = uint32(number(r)), number(r), uint32(number(r)), bytes(r, 32)
		text = fmt.Sprintf("declare %s %d %d %d %s", text, c.Queue.Most, c.Queue.TTL, c.Queue.Tries, quoted(c.Queue.Dead))
	case 2, 10, 12:
		text = map[int]string{2: "drop ", 10: "purge ", 12: "stat "}[l.Kind] + text
	case 3, 4:
		c.Binding, c.Queue = api.Binding{Exchange: bytes(r, 32), Kind: r.IntN(256), Key: bytes(r, 512), Queue: c.Queue.Name}, api.Queue{}
		text = fmt.Sprintf("%s %s %d %s %s", map[int]string{3: "bind", 4: "unbind"}[l.Kind], quoted(c.Binding.Exchange), c.Binding.Kind, quoted(c.Binding.Key), text)
	case 5:
		c.Queue, c.Exchange, c.Key, c.Body, c.Time = api.Queue{}, c.Queue.Name, bytes(r, 512), bytes(r, 900), number(r)
		text = fmt.Sprintf("publish %s %s %s %d", text, quoted(c.Key), quoted(c.Body), c.Time)
	case 6:
		c.N, c.Time = number(r), number(r)
		text = fmt.Sprintf("deliver %s %d %d", text, c.N, c.Time)
	case 7:
		c.ID, c.Token = number(r), number(r)
		text = fmt.Sprintf("ack %s %d %d", text, c.ID, c.Token)
	case 8:
		c.ID, c.Token, c.Dead = number(r), number(r), r.IntN(2) == 0
		text = fmt.Sprintf("nack %s %d %d %s", text, c.ID, c.Token, map[bool]string{true: "yes", false: "no"}[c.Dead])
	case 9:
		c.ID, c.Token, c.Time = number(r), number(r), number(r)
		text = fmt.Sprintf("extend %s %d %d %d", text, c.ID, c.Token, c.Time)
	case 11:
		c = command.Command{Kind: 11, Time: number(r)}
		text = fmt.Sprintf("tick %d", c.Time)
	case 13:
		c.ID, c.N = number(r), number(r)
		text = fmt.Sprintf("browse %s %d %d", text, c.ID, c.N)
	default:
		return other(r, l.Kind)
	}
	l.Command = c
	return l, text
}

// other is any line that isn't a command's.
func other(r *rand.Rand, kind int) (script.Line, string) {
	l := script.Line{Kind: kind}
	switch kind {
	case 16:
		l.N, l.Queue, l.From, l.Most = int64(number(r)), bytes(r, 90), number(r), int64(number(r))
		return l, fmt.Sprintf("look %d %s %d %d", l.N, quoted(l.Queue), l.From, l.Most)
	case 17, 18:
		l.N = int64(number(r))
		return l, fmt.Sprintf("%s %d", map[int]string{17: "close", 18: "fuse"}[kind], l.N)
	}
	return l, map[int]string{14: "commit", 15: "snap", 19: "crash"}[kind]
}

func TestLinesByChance(t *testing.T) {
	r := rand.New(rand.NewPCG(28, 1))
	for range 3000 {
		var lines []script.Line
		text := ""
		for range r.IntN(9) {
			l, s := drawn(r)
			printed(t, l, s)
			if len(text)+len(s) >= 20000 {
				break
			}
			lines = append(lines, l)
			text += s + "\n"
		}
		parsed(t, text, lines...)
	}
}

// alone: is a text's line one that some Line prints as?
func alone(s string) bool {
	l, _, e := script.Parse(s + "\n")
	if e != api.OK || len(l) != 1 {
		return false
	}
	p, e := script.Print(l[0])
	return e == api.OK && p == s
}

// What is parsed is printed so; what isn't has its error where the first line is that is none.
func TestTurnedTextsByChance(t *testing.T) {
	r := rand.New(rand.NewPCG(28, 2))
	good, bad := 0, 0
	for range 6000 {
		text := ""
		for range 1 + r.IntN(6) {
			if _, s := drawn(r); len(s) < 2000 {
				text += s + "\n"
			}
		}
		for range r.IntN(3) {
			b, i := []byte(text), r.IntN(len(text)+1)
			switch r.IntN(3) {
			case 0:
				text = string(b[:i]) + one(r, " ", "\n", "0", "9", "-", "\"", "\\", bytes(r, 2)) + string(b[i:])
			case 1:
				text = string(b[:i]) + string(b[min(i+1, len(b)):])
			default:
				text = string(b[:i]) + one(r, " ", "\n", "1", "x", bytes(r, 1)) + string(b[min(i+1, len(b)):])
			}
		}
		lines, at, e := script.Parse(text)
		if e == api.OK {
			good++
			is(t, "no line", at, 0)
			again := ""
			for _, l := range lines {
				s, e := script.Print(l)
				is(t, "it is printed", e, api.OK)
				again += s + "\n"
			}
			is(t, "so", again, text)
			continue
		}
		bad++
		is(t, "an error", e, api.ErrSyntax)
		is(t, "no lines", len(lines), 0)
		parts := strings.SplitAfter(text, "\n")
		for i, s := range parts[:at] {
			s, ended := strings.CutSuffix(s, "\n")
			is(t, "the first that is none", ended && alone(s), i < at-1)
		}
	}
	is(t, "both came often", good > 1000 && bad > 1000, true)
}

// plain is a disk and its broker, that a shell is held against.
type plain struct {
	d    *disk.Disk
	b    *session.Broker
	wait []command.Command
}

// do is what the chapter says of a line.
func (p *plain) do(l script.Line) script.Answer {
	switch l.Kind {
	case script.Commit:
		replies, e := p.b.Batch(p.wait)
		p.wait = nil
		return script.Answer{Err: e, Replies: replies}
	case script.Snap:
		n, e := p.b.Snap()
		return script.Answer{Err: e, N: n}
	case script.Look:
		list, e := p.b.Browse(int(l.N), l.Queue, l.From, int(l.Most))
		return script.Answer{Err: e, List: list}
	case script.Close:
		return script.Answer{Err: p.b.Close(int(l.N))}
	case script.Fuse:
		p.d.Fuse(int(l.N))
		return script.Answer{}
	case script.Crash:
		p.wait = nil
		p.d.Crash(nil)
		b, e := session.Open(p.d)
		if e == api.OK {
			p.b = b
		}
		return script.Answer{Err: e}
	}
	p.wait = append(p.wait, l.Command)
	return script.Answer{}
}

// lent is one of the messages that are lent, or one that may not be there.
func (p *plain) lent(r *rand.Rand) string {
	l := []string{`"a" 1`}
	for k := range p.b.Leases().All() {
		l = append(l, fmt.Sprintf("%q %d", k.Queue, k.ID))
	}
	return one(r, l...)
}

// step is a line that does something.
func (p *plain) step(r *rand.Rand) string {
	q, n := one(r, `"a"`, `"a"`, `"b"`, `"dead"`), r.IntN(30)
	switch r.IntN(32) {
	case 0, 1:
		return "declare " + q + one(r, ` 0 0 0 ""`, ` 3 0 2 "dead"`, ` 0 5 1 ""`)
	case 2:
		return one(r, "drop "+q, "commit", "commit")
	case 3:
		return "bind \"x\" " + one(r, `2 "" `, `3 "k.#" `, `1 "k" `) + q
	case 4, 5, 6, 7:
		return "publish " + one(r, `"" `+q, `"x" "k.l"`, `"x" "k"`) + " " + quoted(bytes(r, one(r, 9, 900))) + one(r, " 0", " 4")
	case 8, 9:
		return "deliver " + q + one(r, " 1 5", " 9 2", " 32 40")
	case 10:
		return fmt.Sprintf("ack %s %d", p.lent(r), 1+r.IntN(2))
	case 11:
		return fmt.Sprintf("nack %s %d %s", p.lent(r), 1+r.IntN(2), one(r, "yes", "no"))
	case 12:
		return one(r, "tick 1", "tick 3", "purge "+q, "stat "+q, "browse "+q+" 0 9")
	case 13:
		return one(r, "snap", fmt.Sprintf("close %d", r.IntN(9)))
	case 14, 15:
		return fmt.Sprintf("look %d %s %d %d", r.IntN(9), q, r.IntN(9), r.IntN(34))
	case 16:
		return one(r, "crash", fmt.Sprintf("fuse %d", n-3))
	}
	return "commit"
}

func TestShellsByChance(t *testing.T) {
	counts := map[api.Errno]int{}
	delivered, looked := 0, 0
	for seed := range uint64(30) {
		r := rand.New(rand.NewPCG(28, 100+seed))
		pages := one(r, 4, 12, 60, 300)
		h := started(t, pages)
		d, _ := disk.New(pages)
		b, e := session.Open(d)
		is(t, "Open", e, api.OK)
		p := &plain{d: d, b: b}
		for range 600 {
			text := p.step(r)
			l, _, e := script.Parse(text + "\n")
			is(t, "Parse of "+text, e, api.OK)
			got, want := h.Do(l[0]), p.do(l[0])
			same(t, text, got, want)
			alike(t, text+": what waits", h.Waiting, p.wait)
			if !d.Down() && p.b.Store().Err() == api.OK {
				matches(t, text, shown(t, h.Disk, h.Broker), shown(t, d, p.b))
			}
			counts[got.Err]++
			looked += len(got.List)
			for _, reply := range got.Replies {
				delivered += len(reply.List)
			}
		}
	}
	for _, e := range []api.Errno{api.OK, api.ErrPower, api.ErrFull, api.ErrNone, api.ErrThere, api.ErrArg, api.ErrHandle, api.ErrLease} {
		is(t, fmt.Sprint(e, " came"), counts[e] > 3, true)
	}
	is(t, "messages were told", delivered > 20 && looked > 20, true)
}
