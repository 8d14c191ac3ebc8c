package message_test

import (
	"math"
	"strings"
	"testing"

	"taproot/api"
	"taproot/message"
	"taproot/registry"
)

// The longest queue's name of which a message has a key, and that of which a term has one, too.
const (
	longKey  = api.MaxKey - 4 - 3 - 9
	longTerm = longKey - 9
)

// got wants a message to be got.
func got(t *testing.T, r registry.Reader, want api.Message) {
	t.Helper()
	m, e := message.Get(r, want.Queue, want.ID)
	is(t, "got", e, api.OK)
	is(t, "the message", m, want)
}

// missing wants none to be got, or taken.
func missing(t *testing.T, w registry.Writer, queue string, id uint64) {
	t.Helper()
	m, e := message.Get(w, queue, id)
	is(t, "none is got", e, api.ErrNone)
	is(t, "no message", m, api.Message{})
	m, e = message.Take(w, queue, id)
	is(t, "none is taken", e, api.ErrNone)
	is(t, "no message", m, api.Message{})
}

// some are messages of all sorts.
func some() []api.Message {
	return []api.Message{
		{Queue: "a", ID: 1, Expiry: 5, Body: "hi"},
		{Queue: "a", ID: 2, Tries: 7},
		{Queue: "a", ID: 10, Tries: math.MaxUint32, Expiry: math.MaxUint64, Body: strings.Repeat("b", api.MaxBody)},
		{Queue: "aa", ID: 1, Expiry: 5, Body: "\x00\xff"},
		{Queue: "b", Expiry: 4, Body: strings.Repeat("b", api.MaxInline)},
		{Queue: "", ID: math.MaxUint64, Expiry: 5},
		{Queue: "a\x00", ID: 3, Expiry: 1 << 40},
		{Queue: strings.Repeat("n", longTerm), ID: 3, Expiry: 6},
		{Queue: strings.Repeat("n", longKey), ID: 3},
	}
}

func TestAddGetAndTake(t *testing.T) {
	for what, w := range writers(t, others()...) {
		t.Run(what, func(t *testing.T) {
			l := some()
			for i, m := range l {
				missing(t, w, m.Queue, m.ID)
				is(t, "added", message.Add(w, m), api.OK)
				held(t, "it and its term are there", w, append(others(), pairsOf(l[:i+1]...)...)...)
				got(t, w, m)
				is(t, "added again", message.Add(w, m), api.ErrThere)
				is(t, "another one of that number", message.Add(w, api.Message{Queue: m.Queue, ID: m.ID, Tries: 99, Body: "other"}), api.ErrThere)
				held(t, "as it was", w, append(others(), pairsOf(l[:i+1]...)...)...)
			}
			for _, queue := range []string{"A", "a\x00\x00", "aaa", "c", "m", strings.Repeat("n", 32), strings.Repeat("n", longKey+1), strings.Repeat("n", 100000), strings.Repeat("\x00", longKey)} {
				missing(t, w, queue, 1)
			}
			missing(t, w, "a", 0)
			missing(t, w, "a", 3)
			for i, want := range l {
				m, e := message.Take(w, want.Queue, want.ID)
				is(t, "taken", e, api.OK)
				is(t, "it", m, want)
				held(t, "it and its term are gone", w, append(others(), pairsOf(l[i+1:]...)...)...)
				missing(t, w, want.Queue, want.ID)
			}
		})
	}
}

func TestAddErrors(t *testing.T) {
	there := pairsOf(api.Message{Queue: "a", ID: 1}, api.Message{Queue: strings.Repeat("n", longKey), ID: 1})
	wrong := []struct {
		what string
		m    api.Message
		want api.Errno
	}{
		{"there", api.Message{Queue: "a", ID: 1}, api.ErrThere},
		{"there, with a term", api.Message{Queue: "a", ID: 1, Expiry: 5}, api.ErrThere},
		{"no key", api.Message{Queue: strings.Repeat("n", longKey+1)}, api.ErrLong},
		{"far from a key", api.Message{Queue: strings.Repeat("n", 100000), Expiry: 1}, api.ErrLong},
		{"no key, for its bytes 0", api.Message{Queue: strings.Repeat("\x00", longKey/2+1)}, api.ErrLong},
		{"no term's key", api.Message{Queue: strings.Repeat("n", longTerm+1), Expiry: 1}, api.ErrLong},
		{"no term's key, of one that is there", api.Message{Queue: strings.Repeat("n", longKey), ID: 1, Expiry: 1}, api.ErrLong},
		{"what the writer refuses", api.Message{Queue: "a", ID: 2, Expiry: 1, Body: strings.Repeat("b", api.MaxValue)}, api.ErrLong},
	}
	for what, w := range writers(t, there...) {
		for _, x := range wrong {
			is(t, what+": "+x.what, message.Add(w, x.m), x.want)
			held(t, what+" has what it had", w, there...)
		}
	}
}

// A message comes to its term, though that was there without it.
func TestAddToATerm(t *testing.T) {
	for value, want := range map[string]api.Errno{"": api.ErrLost, "hi": api.ErrForm} {
		p := term(5, "a", 1)
		p.Value = value
		for what, w := range writers(t, p) {
			ended(t, what+": lost", message.Due(w, 5), want, []api.Message{}...)
			m := api.Message{Queue: "a", ID: 1, Expiry: 5}
			is(t, "added", message.Add(w, m), api.OK)
			held(t, "it and its term", w, pairsOf(m)...)
			alike(t, "due", all(t, message.Due(w, 5)), []api.Message{m})
		}
	}
}

func TestSave(t *testing.T) {
	other := api.Message{Queue: "aa", ID: 1, Expiry: 5, Body: "stays"}
	long := strings.Repeat("n", longKey)
	saves := []api.Message{
		{Body: "none"}, {Expiry: 5, Body: "a term comes"}, {Expiry: 5, Tries: 1, Body: "it stays"}, {Expiry: 5, Tries: 1, Body: "it stays"}, {Expiry: 4, Body: "it is another one"},
		{Expiry: math.MaxUint64, Tries: math.MaxUint32}, {Tries: 3, Body: strings.Repeat("it goes", 1000)}, {}, {Expiry: 1},
	}
	for what, w := range writers(t, append(others(), pairsOf(other)...)...) {
		t.Run(what, func(t *testing.T) {
			rest := append(others(), pairsOf(other)...)
			is(t, "not there", message.Save(w, api.Message{Queue: "a", ID: 1}), api.ErrNone)
			held(t, "as it was", w, rest...)
			is(t, "added", message.Add(w, api.Message{Queue: "a", ID: 1}), api.OK)
			for _, m := range saves {
				m.Queue, m.ID = "a", 1
				is(t, "saved", message.Save(w, m), api.OK)
				got(t, w, m)
				held(t, "it and its term alone", w, append(rest, pairsOf(m)...)...)
			}
			for _, m := range []api.Message{{Queue: "a", ID: 2}, {Queue: "b", ID: 1}, {Queue: "", ID: 1}, {Queue: "a\x00", ID: 1, Expiry: 5}, {Queue: long + "n", ID: 1}, {Queue: long, ID: 1, Expiry: 5}} {
				is(t, "not there", message.Save(w, m), api.ErrNone)
			}
			is(t, "added", message.Add(w, api.Message{Queue: long, ID: 1}), api.OK)
			rest = append(rest, pairsOf(api.Message{Queue: "a", ID: 1, Expiry: 1})...)
			is(t, "no term's key", message.Save(w, api.Message{Queue: long, ID: 1, Expiry: 1}), api.ErrLong)
			held(t, "as it was", w, append(rest, pairsOf(api.Message{Queue: long, ID: 1})...)...)
			is(t, "what the writer refuses", message.Save(w, api.Message{Queue: "a", ID: 1, Expiry: 7, Body: strings.Repeat("b", api.MaxValue)}), api.ErrLong)
			held(t, "as it was", w, append(rest, pairsOf(api.Message{Queue: long, ID: 1})...)...)
			is(t, "without a term", message.Save(w, api.Message{Queue: long, ID: 1, Tries: 1}), api.OK)
			held(t, "saved", w, append(rest, pairsOf(api.Message{Queue: long, ID: 1, Tries: 1})...)...)
		})
	}
}

// A term is as the Expiry tells, though it wasn't so ahead of that.
func TestSaveMendsTerms(t *testing.T) {
	m := api.Message{Queue: "a", ID: 1, Expiry: 5}
	broken := term(5, "a", 1)
	broken.Value = "hi"
	for _, l := range [][]api.Pair{{alone(m)}, {alone(m), broken}, pairsOf(m)} {
		for what, w := range writers(t, l...) {
			is(t, what+": saved", message.Save(w, m), api.OK)
			held(t, "it and its term", w, pairsOf(m)...)
		}
		for what, w := range writers(t, l...) {
			later := api.Message{Queue: "a", ID: 1, Expiry: 6}
			is(t, what+": saved", message.Save(w, later), api.OK)
			held(t, "it and its term", w, pairsOf(later)...)
		}
		for what, w := range writers(t, l...) {
			x, e := message.Take(w, "a", 1)
			is(t, what+": taken", x == m && e == api.OK, true)
			held(t, "nothing is left", w)
		}
	}
	long := api.Message{Queue: strings.Repeat("n", longKey), ID: 1, Expiry: 5} // its term has no key
	for what, w := range writers(t, alone(long)) {
		x, e := message.Take(w, long.Queue, 1)
		is(t, what+": taken", x == long && e == api.OK, true)
		held(t, "nothing is left", w)
	}
}

func TestMove(t *testing.T) {
	a, b := api.Message{Queue: "a", ID: 1, Tries: 3, Expiry: 5, Body: "hi"}, api.Message{Queue: "b", ID: 7, Expiry: 5}
	moves := []struct {
		what string
		m    api.Message
		to   api.Message
		want api.Errno
		left []api.Message
	}{
		{"elsewhere", a, api.Message{Queue: "c", ID: 1, Expiry: 9, Body: "hi"}, api.OK, []api.Message{b, {Queue: "c", ID: 1, Expiry: 9, Body: "hi"}}},
		{"another number", a, api.Message{Queue: "a", ID: 2}, api.OK, []api.Message{b, {Queue: "a", ID: 2}}},
		{"into its place", a, api.Message{Queue: "a", ID: 1, Expiry: 6}, api.OK, []api.Message{b, {Queue: "a", ID: 1, Expiry: 6}}},
		{"by the queue and the number alone", api.Message{Queue: "a", ID: 1, Expiry: 99}, api.Message{Queue: "c", ID: 1}, api.OK, []api.Message{b, {Queue: "c", ID: 1}}},
		{"what isn't there", api.Message{Queue: "a", ID: 2, Expiry: 5}, api.Message{Queue: "c", ID: 1}, api.ErrNone, []api.Message{a, b}},
		{"what isn't there, to where one is", api.Message{Queue: "c", ID: 1}, b, api.ErrNone, []api.Message{a, b}},
		{"what has no key", api.Message{Queue: strings.Repeat("n", 300)}, b, api.ErrNone, []api.Message{a, b}},
		{"to where one is", a, b, api.ErrThere, []api.Message{b}},
		{"to where no key is", a, api.Message{Queue: strings.Repeat("n", longTerm+1), Expiry: 5}, api.ErrLong, []api.Message{b}},
	}
	for _, x := range moves {
		for what, w := range writers(t, pairsOf(a, b)...) {
			is(t, what+": "+x.what, message.Move(w, x.m, x.to), x.want)
			held(t, what+": "+x.what, w, pairsOf(x.left...)...)
		}
	}
}

func TestList(t *testing.T) {
	var want []api.Message
	for _, id := range []uint64{0, 1, 2, 9, 10, 255, 256, 1 << 32, 1 << 63, math.MaxUint64} {
		want = append(want, api.Message{Queue: "a", ID: id, Tries: uint32(id), Expiry: id % 3, Body: strings.Repeat("b", int(id%1000))})
	}
	beside := []api.Message{{Queue: "", ID: 7}, {Queue: "a\x00", ID: 7}, {Queue: "aa", ID: 7}, {Queue: "b", ID: 7}, {Queue: strings.Repeat("n", longKey), ID: 7}}
	l := append(others(), pairsOf(append(beside, want...)...)...)
	for what, w := range writers(t, l...) {
		t.Run(what, func(t *testing.T) {
			row := message.List(w, "a", 0)
			for range 2 {
				alike(t, "by their numbers", all(t, row), want)
			}
			for i, m := range want {
				alike(t, "from one on", all(t, message.List(w, "a", m.ID)), want[i:])
				if m.ID < math.MaxUint64 {
					alike(t, "from behind one on", all(t, message.List(w, "a", m.ID+1)), want[i+1:])
				}
				n := 0
				for x, e := range row {
					is(t, "the next one", x == want[n] && e == api.OK, true)
					n++
					if n > i {
						break
					}
				}
				is(t, "left", n, i+1)
			}
			for _, m := range beside {
				alike(t, "of another queue", all(t, message.List(w, m.Queue, 0)), []api.Message{m})
				alike(t, "of another queue, from there on", all(t, message.List(w, m.Queue, 7)), []api.Message{m})
				is(t, "of another queue, from behind it on", len(all(t, message.List(w, m.Queue, 8))), 0)
			}
			for _, queue := range []string{"A", "c", "m", "a\x00\x00", strings.Repeat("n", longKey-1), strings.Repeat("n", longKey+1), strings.Repeat("n", 100000)} {
				is(t, "none", len(all(t, message.List(w, queue, 0))), 0)
				n, e := message.Count(w, queue)
				is(t, "none", n == 0 && e == api.OK, true)
			}
			_, e := message.Take(w, "a", 0)
			is(t, "taken", e, api.OK)
			alike(t, "what is there then", all(t, row), want[1:])
		})
	}
}

func TestDue(t *testing.T) {
	l := []api.Message{ // in the order of their terms' keys
		{Queue: "b", ID: 9, Expiry: 1}, {Queue: "", ID: 3, Expiry: 5}, {Queue: "a", ID: 2, Expiry: 5, Tries: 1}, {Queue: "a", ID: 10, Expiry: 5, Body: strings.Repeat("b", 5000)}, {Queue: "a\x00", ID: 1, Expiry: 5}, {Queue: "aa", ID: 1, Expiry: 5},
		{Queue: "a", ID: 1, Expiry: 255}, {Queue: "a", ID: 0, Expiry: 256}, {Queue: "c", ID: 1, Expiry: 1 << 40}, {Queue: "c", ID: 2, Expiry: math.MaxUint64 - 1}, {Queue: "a", ID: math.MaxUint64, Expiry: math.MaxUint64},
	}
	never := []api.Message{{Queue: "a", ID: 3}, {Queue: "b", ID: 1}}
	for what, w := range writers(t, append(others(), pairsOf(append(never, l...)...)...)...) {
		t.Run(what, func(t *testing.T) {
			for _, now := range []uint64{0, 1, 4, 5, 6, 254, 255, 256, 1<<40 - 1, 1 << 40, math.MaxUint64 - 2, math.MaxUint64 - 1, math.MaxUint64} {
				var want []api.Message
				for _, m := range l {
					if m.Expiry <= now {
						want = append(want, m)
					}
				}
				row := message.Due(w, now)
				for range 2 {
					alike(t, "due", all(t, row), want)
				}
				for most := range want {
					n := 0
					for range row {
						n++
						if n > most {
							break
						}
					}
					is(t, "left", n, most+1)
				}
			}
			row := message.Due(w, 5)
			_, e := message.Take(w, "a", 2)
			is(t, "taken", e, api.OK)
			is(t, "saved", message.Save(w, api.Message{Queue: "", ID: 3}), api.OK)
			alike(t, "what is there then", all(t, row), []api.Message{l[0], l[3], l[4], l[5]})
		})
	}
	is(t, "of nothing none", len(all(t, message.Due(registry.New(), math.MaxUint64))), 0)
}

// Of a term without its message, or of one that has another Expiry, the row is ended.
func TestDueOfWhatIsLost(t *testing.T) {
	ahead, behind := api.Message{Queue: "a", ID: 1, Expiry: 4}, api.Message{Queue: "a", ID: 9, Expiry: 6}
	for name, l := range map[string][]api.Pair{
		"no message of that number":        {term(5, "a", 2)},
		"no message of that queue":         {term(5, "b", 1)},
		"no queue that has a long name":    {term(5, strings.Repeat("n", longTerm), 2)},
		"one that expires ahead":           {term(5, "a", 1)},
		"one that expires behind":          {term(5, "a", 9)},
		"one that never expires":           {term(5, "a", 2), alone(api.Message{Queue: "a", ID: 2})},
		"one whose own term isn't there":   {term(5, "a", 2), alone(api.Message{Queue: "a", ID: 2, Expiry: 6})},
		"the first one of several that do": {term(5, "a", 2), term(5, "b", 2), term(5, "c", 2)},
	} {
		for what, w := range writers(t, append(pairsOf(ahead, behind), l...)...) {
			alike(t, what+": ahead of it", all(t, message.Due(w, 4)), []api.Message{ahead})
			ended(t, what+": "+name, message.Due(w, 5), api.ErrLost, ahead)
			ended(t, what+": "+name, message.Due(w, math.MaxUint64), api.ErrLost, ahead)
			n := 0
			for _, e := range message.Due(w, 5) {
				is(t, "left ahead of it", e, api.OK)
				n++
				break
			}
			is(t, "one", n, 1)
		}
	}
}

func TestCountAndClear(t *testing.T) {
	var a, b []api.Message
	for i := range uint64(50) {
		a = append(a, api.Message{Queue: "a", ID: i * i, Tries: uint32(i), Expiry: i % 4, Body: strings.Repeat("b", int(i*30))})
		b = append(b, api.Message{Queue: []string{"", "a\x00", "aa", "b"}[i%4], ID: i * i, Expiry: i % 3})
	}
	long := api.Message{Queue: strings.Repeat("n", longKey), ID: 3}
	rest := append(others(), pairsOf(append(b, long)...)...)
	for what, w := range writers(t, append(rest, pairsOf(a...)...)...) {
		t.Run(what, func(t *testing.T) {
			n, e := message.Count(w, "a")
			is(t, "counted", n == 50 && e == api.OK, true)
			for i, queue := range []string{"", "a\x00", "aa", "b"} {
				n, e := message.Count(w, queue)
				is(t, "counted", n == []int{13, 13, 12, 12}[i] && e == api.OK, true)
			}
			n, e = message.Clear(w, "a")
			is(t, "cleared", n == 50 && e == api.OK, true)
			held(t, "they and their terms are gone, and nothing else", w, rest...)
			n, e = message.Count(w, "a")
			is(t, "none", n == 0 && e == api.OK, true)
			for _, queue := range []string{"a", "A", "m", "e", strings.Repeat("n", longKey+1), strings.Repeat("n", 100000)} {
				n, e = message.Clear(w, queue)
				is(t, "none", n == 0 && e == api.OK, true)
			}
			held(t, "as it was", w, rest...)
			n, e = message.Clear(w, long.Queue)
			is(t, "cleared", n == 1 && e == api.OK, true)
			held(t, "it is gone", w, rest[:len(rest)-1]...)
		})
	}
}
