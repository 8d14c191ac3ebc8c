package script_test

import (
	"fmt"
	"iter"
	"slices"
	"testing"

	"taproot/api"
	"taproot/broker"
	"taproot/command"
	"taproot/disk"
	"taproot/lease"
	"taproot/script"
	"taproot/session"
)

// brief is a thing as text, if that isn't long.
func brief(x any) string {
	s := fmt.Sprintf("%+v", x)
	return s[:min(len(s), 500)]
}

func is[T comparable](t *testing.T, what string, got, want T) {
	t.Helper()
	if got != want {
		t.Errorf("%s: %s, wanted %s", what, brief(got), brief(want))
	}
}

// alike wants two lists to have the same things.
func alike[T comparable](t *testing.T, what string, got, want []T) {
	t.Helper()
	if !slices.Equal(got, want) {
		t.Errorf("%s: %s, wanted %s", what, brief(got), brief(want))
	}
}

// says wants replies to be those, part by part.
func says(t *testing.T, what string, got, want []broker.Reply) {
	t.Helper()
	is(t, what+": replies", len(got), len(want))
	for i := range min(len(got), len(want)) {
		is(t, what+": Err", got[i].Err, want[i].Err)
		is(t, what+": N", got[i].N, want[i].N)
		alike(t, what+": IDs", got[i].IDs, want[i].IDs)
		alike(t, what+": Lost", got[i].Lost, want[i].Lost)
		alike(t, what+": Dead", got[i].Dead, want[i].Dead)
		alike(t, what+": List", got[i].List, want[i].List)
	}
}

// same wants an answer to be that, part by part.
func same(t *testing.T, what string, got, want script.Answer) {
	t.Helper()
	is(t, what+": Err", got.Err, want.Err)
	is(t, what+": N", got.N, want.N)
	says(t, what, got.Replies, want.Replies)
	alike(t, what+": List", got.List, want.List)
}

// of is a command's line.
func of(c command.Command) script.Line { return script.Line{Kind: c.Kind, Command: c} }

// queue is a command of that kind that names a queue.
func queue(kind int, name string) command.Command {
	return command.Command{Kind: kind, Queue: api.Queue{Name: name}}
}

// commands are some of each kind, with what their lines are.
func commands() map[string]command.Command {
	l := map[string]command.Command{}
	put := func(text string, kind int, fill func(*command.Command)) {
		c := command.Command{Kind: kind}
		fill(&c)
		l[text] = c
	}
	const all = 1<<64 - 1
	named := func(c *command.Command) { c.Queue.Name = "a" }
	put(`declare "a" 1 2 3 "d"`, 1, func(c *command.Command) { c.Queue = api.Queue{Name: "a", Most: 1, TTL: 2, Tries: 3, Dead: "d"} })
	put(`declare "b" 4294967295 18446744073709551615 4294967294 ""`, 1, func(c *command.Command) { c.Queue = api.Queue{Name: "b", Most: 1<<32 - 1, TTL: all, Tries: 1<<32 - 2} })
	put(`declare "" 0 0 0 ""`, 1, func(*command.Command) {})
	put(`drop "a"`, 2, named)
	put(`bind "x" 3 "k.#" "a"`, 3, func(c *command.Command) { c.Binding = api.Binding{Exchange: "x", Kind: 3, Key: "k.#", Queue: "a"} })
	put(`bind "" 255 "" ""`, 3, func(c *command.Command) { c.Binding.Kind = 255 })
	put(`unbind "x" 1 "k" "a"`, 4, func(c *command.Command) { c.Binding = api.Binding{Exchange: "x", Kind: 1, Key: "k", Queue: "a"} })
	put(`unbind "" 0 "" ""`, 4, func(*command.Command) {})
	put(`publish "" "a" "hi" 0`, 5, func(c *command.Command) { c.Key, c.Body = "a", "hi" })
	put(`publish "x" "k.l" "" 1099511627776`, 5, func(c *command.Command) { c.Exchange, c.Key, c.Time = "x", "k.l", 1<<40 })
	put(`deliver "a" 32 5`, 6, func(c *command.Command) { named(c); c.N, c.Time = 32, 5 })
	put(`deliver "a" 18446744073709551615 18446744073709551614`, 6, func(c *command.Command) { named(c); c.N, c.Time = all, all-1 })
	put(`ack "a" 1 2`, 7, func(c *command.Command) { named(c); c.ID, c.Token = 1, 2 })
	put(`nack "a" 1 1 yes`, 8, func(c *command.Command) { named(c); c.ID, c.Token, c.Dead = 1, 1, true })
	put(`nack "a" 3 4 no`, 8, func(c *command.Command) { named(c); c.ID, c.Token = 3, 4 })
	put(`extend "a" 1 2 3`, 9, func(c *command.Command) { named(c); c.ID, c.Token, c.Time = 1, 2, 3 })
	put(`purge "a"`, 10, named)
	put(`tick 1`, 11, func(c *command.Command) { c.Time = 1 })
	put(`tick 18446744073709551615`, 11, func(c *command.Command) { c.Time = all })
	put(`stat "a"`, 12, named)
	put(`browse "a" 7 9`, 13, func(c *command.Command) { named(c); c.ID, c.N = 7, 9 })
	return l
}

// lines are those commands' and others, with what they are.
func lines() map[string]script.Line {
	const least, most = -1 << 63, 1<<63 - 1
	l := map[string]script.Line{
		"commit":            {Kind: 14},
		"snap":              {Kind: 15},
		`look 1 "a" 2 3`:    {Kind: 16, N: 1, Queue: "a", From: 2, Most: 3},
		`look 0 "" 0 0`:     {Kind: 16},
		`look -1 "a" 0 -32`: {Kind: 16, N: -1, Queue: "a", Most: -32},
		`look -9223372036854775808 "\"\\\n\x00 " 18446744073709551615 9223372036854775807`: {Kind: 16, N: least, Queue: "\"\\\n\x00 ", From: 1<<64 - 1, Most: most},
		"close 1":                   {Kind: 17, N: 1},
		"close 0":                   {Kind: 17},
		"close -10":                 {Kind: 17, N: -10},
		"close 9223372036854775807": {Kind: 17, N: most},
		"fuse 0":                    {Kind: 18},
		"fuse -1":                   {Kind: 18, N: -1},
		"fuse -9223372036854775808": {Kind: 18, N: least},
		"fuse 100":                  {Kind: 18, N: 100},
		"crash":                     {Kind: 19},
	}
	for text, c := range commands() {
		l[text] = of(c)
	}
	return l
}

// printed wants a line to have a text.
func printed(t *testing.T, l script.Line, want string) {
	t.Helper()
	s, e := script.Print(l)
	is(t, "Print of "+want, e, api.OK)
	is(t, "Print", s, want)
}

// unprinted wants a line to be none.
func unprinted(t *testing.T, what string, l script.Line, want api.Errno) {
	t.Helper()
	s, e := script.Print(l)
	is(t, what+": Print", e, want)
	is(t, what+": beside an error", s, "")
}

// parsed wants a text to be lines.
func parsed(t *testing.T, s string, want ...script.Line) {
	t.Helper()
	l, at, e := script.Parse(s)
	is(t, "Parse of "+s[:min(len(s), 200)], e, api.OK)
	is(t, "no line is wrong", at, 0)
	alike(t, "Parse", l, want)
}

// refused wants a text to be none, at a line.
func refused(t *testing.T, s string, line int) {
	t.Helper()
	l, at, e := script.Parse(s)
	what := fmt.Sprintf("Parse of %.200q", s)
	is(t, what, e, api.ErrSyntax)
	is(t, what+": the line", at, line)
	is(t, what+": beside an error", len(l), 0)
}

// started is a shell, on so many pages.
func started(t *testing.T, pages int) *script.Shell {
	t.Helper()
	h, e := script.Start(pages)
	is(t, "Start", e, api.OK)
	is(t, "its pages", h.Disk.Pages(), pages)
	is(t, "none waits", len(h.Waiting), 0)
	return h
}

// answers are what lines come to, done one by one.
func answers(t *testing.T, h *script.Shell, s string) []script.Answer {
	t.Helper()
	l, _, e := script.Parse(s)
	is(t, "Parse of "+s, e, api.OK)
	var told []script.Answer
	for _, x := range l {
		told = append(told, h.Do(x))
	}
	return told
}

// does does lines, and answers what the last one came to.
func does(t *testing.T, h *script.Shell, s string) script.Answer {
	t.Helper()
	told := answers(t, h, s)
	return told[len(told)-1]
}

// done is does, of lines that all come to OK.
func done(t *testing.T, h *script.Shell, s string) script.Answer {
	t.Helper()
	told := answers(t, h, s)
	for i, a := range told {
		is(t, fmt.Sprintf("line %d of %s", i+1, s), a.Err, api.OK)
	}
	return told[len(told)-1]
}

// all wants a row without an error, and answers what it gives.
func all[T any](t *testing.T, r iter.Seq2[T, api.Errno]) []T {
	t.Helper()
	var l []T
	for x, e := range r {
		is(t, "a row", e, api.OK)
		l = append(l, x)
	}
	return l
}

// loan is what is lent, and till when.
type loan struct {
	lease.Key
	until uint64
}

// picture is all that a disk and its broker show.
type picture struct {
	pairs     []api.Pair
	loans     []loan
	clock, tx uint64
	snaps     []int
	steps     int
	waits     []int
	down      bool
}

// shown are a disk's and its broker's.
func shown(t *testing.T, d *disk.Disk, b *session.Broker) picture {
	t.Helper()
	p := picture{clock: b.Clock(), tx: b.Now().Tx(), snaps: b.Store().Snaps(), steps: d.Steps(), waits: d.Waits(), down: d.Down()}
	for k, until := range b.Leases().All() {
		p.loans = append(p.loans, loan{k, until})
	}
	if !p.down {
		p.pairs = all(t, b.Now().Range("", ""))
	}
	return p
}

// matches wants two pictures to be the same.
func matches(t *testing.T, what string, got, want picture) {
	t.Helper()
	alike(t, what+": the pairs", got.pairs, want.pairs)
	alike(t, what+": lent", got.loans, want.loans)
	is(t, what+": the clock", got.clock, want.clock)
	is(t, what+": the number", got.tx, want.tx)
	alike(t, what+": the snapshots", got.snaps, want.snaps)
	is(t, what+": the steps", got.steps, want.steps)
	alike(t, what+": the sectors that wait", got.waits, want.waits)
	is(t, what+": the power", got.down, want.down)
}
