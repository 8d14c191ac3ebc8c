package dump_test

import (
	"math"
	"slices"
	"strings"
	"testing"

	"taproot/api"
	"taproot/broker"
	"taproot/command"
	"taproot/dump"
	"taproot/lease"
	"taproot/registry"
)

// right wants a dump to be so, or not, and to be loaded only then.
func right(t *testing.T, what string, d dump.Dump, want bool) {
	t.Helper()
	was := copied(d)
	is(t, what+": Right", d.Right(), want)
	for name, w := range writers(t) {
		if want {
			is(t, what+": Load into "+name, d.Load(w), api.OK)
			held(t, what+": "+name, w, pairsOf(d)...)
			told(t, what+": "+name, w, d)
		} else {
			is(t, what+": Load into "+name, d.Load(w), api.ErrForm)
			held(t, what+": "+name, w)
		}
	}
	same(t, what+": as it was", d, was)
}

func TestRight(t *testing.T) {
	right(t, "nothing", dump.Dump{}, true)
	right(t, "a number alone", dump.Dump{Last: math.MaxUint64}, true)
	right(t, "the last clock", dump.Dump{Clock: api.MaxTime}, true)
	right(t, "a clock that is too far", dump.Dump{Clock: api.MaxTime + 1}, false)
	right(t, "a clock at the end of numbers", dump.Dump{Clock: math.MaxUint64}, false)
	right(t, "some", some(), true)
}

// queues is a dump of these alone.
func queues(l ...api.Queue) dump.Dump { return dump.Dump{Queues: l} }

func TestRightQueues(t *testing.T) {
	longest := strings.Repeat("n", api.MaxName)
	right(t, "the edges", queues(api.Queue{Name: longest, Most: math.MaxUint32, TTL: api.MaxTime, Tries: math.MaxUint32, Dead: longest[1:]}), true)
	right(t, "a Dead that is among them", queues(api.Queue{Name: "a", Dead: "b"}, api.Queue{Name: "b", Dead: "a"}), true)
	right(t, "a Dead that is gone", queues(api.Queue{Name: "a", Dead: "gone"}), true)
	right(t, "in order", queues(api.Queue{Name: "-"}, api.Queue{Name: "0"}, api.Queue{Name: "A"}, api.Queue{Name: "_"}, api.Queue{Name: "a"}, api.Queue{Name: "a-"}, api.Queue{Name: "a0"}, api.Queue{Name: "b"}), true)
	for what, q := range map[string]api.Queue{
		"no name":                 {},
		"a name of two words":     {Name: "a.b"},
		"a name that is a sign":   {Name: "*"},
		"a name with a byte 0":    {Name: "a\x00"},
		"a long name":             {Name: longest + "n"},
		"a very long name":        {Name: strings.Repeat("n", 100000)},
		"a Dead that is no name":  {Name: "a", Dead: "b.c"},
		"a Dead that is long":     {Name: "a", Dead: longest + "n"},
		"a Dead that is itself":   {Name: "a", Dead: "a"},
		"a TTL that is too far":   {Name: "a", TTL: api.MaxTime + 1},
		"a TTL at the end of all": {Name: "a", TTL: math.MaxUint64},
	} {
		right(t, what, queues(q), false)
		right(t, what+", behind another one", queues(api.Queue{Name: "-"}, q), false)
	}
	right(t, "twice", queues(api.Queue{Name: "a"}, api.Queue{Name: "a"}), false)
	right(t, "twice, in two ways", queues(api.Queue{Name: "a"}, api.Queue{Name: "a", Most: 1}), false)
	right(t, "not in order", queues(api.Queue{Name: "b"}, api.Queue{Name: "a"}), false)
	right(t, "not in order, of two lengths", queues(api.Queue{Name: "aa"}, api.Queue{Name: "a"}), false)
}

// bound is a dump of the queues a and b, and these bindings.
func bound(l ...api.Binding) dump.Dump {
	d := queues(api.Queue{Name: "a"}, api.Queue{Name: "b"})
	d.Bindings = l
	return d
}

func TestRightBindings(t *testing.T) {
	longest := strings.Repeat("n", api.MaxName)
	words := strings.Join(slices.Repeat([]string{longest}, 7), ".") // of which a key may have 200 bytes, beside such an exchange
	right(t, "of all kinds", bound(binding("d", 1, "", "a"), binding("d", 1, "k.l", "b"), binding("f", 2, "", "a"), binding("t", 3, "", "a"), binding("t", 3, "#.*.k", "a")), true)
	right(t, "an exchange of a queue's name", bound(binding("a", 2, "", "a"), binding("a", 2, "", "b")), true)
	right(t, "in order", bound(binding(longest[1:], 1, "k", "a"), binding(longest, 1, "", "b"), binding(longest, 1, "k", "a"), binding(longest, 1, "k", "b"), binding(longest, 1, "k.k", "a"), binding(longest, 1, "l", "a")), true)
	right(t, "the longest key", bound(binding(longest, 1, words[:200], "a"), binding(longest, 1, words[:199]+"o", "a")), true)
	for what, b := range map[string]api.Binding{
		"nothing":                {},
		"no exchange":            binding("", 1, "k", "a"),
		"an exchange of two":     binding("x.y", 1, "k", "a"),
		"a long exchange":        binding(longest+"n", 1, "k", "a"),
		"no kind":                binding("x", 0, "k", "a"),
		"no kind, and no key":    binding("x", 0, "", "a"),
		"a kind that is none":    binding("x", 4, "k", "a"),
		"a kind below 0":         binding("x", -1, "k", "a"),
		"a kind with a byte 1":   binding("x", 257, "k", "a"),
		"a direct key":           binding("x", 1, "*", "a"),
		"a fanout key":           binding("x", 2, "k", "a"),
		"a topic key":            binding("x", 3, "k..l", "a"),
		"no queue":               binding("x", 1, "k", ""),
		"another queue":          binding("x", 1, "k", "c"),
		"a queue of other bytes": binding("x", 1, "k", "A"),
		"one that has no key":    binding(longest, 1, words[:201], "a"),
		"a topic that has none":  binding(longest, 3, words[:197]+".#.#", "b"),
		"a key that is no key":   binding("x", 1, words[:5]+"..", "a"),
	} {
		right(t, what, bound(b), false)
		right(t, what+", behind another one", bound(binding("-", 1, "k", "a"), b), false)
	}
	right(t, "of two kinds", bound(binding("x", 1, "k", "a"), binding("x", 3, "k", "a")), false)
	right(t, "of two kinds, further on", bound(binding("x", 1, "k", "a"), binding("x", 1, "l", "a"), binding("x", 2, "", "b")), false)
	right(t, "of two kinds, of two exchanges", bound(binding("x", 1, "k", "a"), binding("y", 3, "k", "a")), true)
	right(t, "of two kinds, of the second exchange", bound(binding("w", 1, "k", "a"), binding("x", 1, "k", "a"), binding("x", 3, "k", "a")), false)
	right(t, "of two kinds, apart", bound(binding("x", 1, "k", "a"), binding("y", 3, "k", "a"), binding("x", 3, "k", "a")), false)
	right(t, "twice", bound(binding("x", 1, "k", "a"), binding("x", 1, "k", "a")), false)
	right(t, "not by their queues", bound(binding("x", 1, "k", "b"), binding("x", 1, "k", "a")), false)
	right(t, "not by their keys", bound(binding("x", 1, "l", "a"), binding("x", 1, "k", "b")), false)
	right(t, "not by their keys' lengths", bound(binding("x", 1, "k.k", "a"), binding("x", 1, "k", "b")), false)
	right(t, "not by their exchanges", bound(binding("y", 1, "k", "a"), binding("x", 1, "l", "b")), false)
	right(t, "without queues", dump.Dump{Bindings: []api.Binding{binding("x", 1, "k", "a")}}, false)
	gone := queues(api.Queue{Name: "a", Dead: "b"})
	gone.Bindings = []api.Binding{binding("x", 1, "k", "b")}
	right(t, "to a queue that is gone", gone, false)
}

// posted is a dump of the queues a and b, and these messages.
func posted(last uint64, l ...api.Message) dump.Dump {
	d := bound()
	d.Last, d.Messages = last, l
	return d
}

func TestRightMessages(t *testing.T) {
	body := strings.Repeat("b", api.MaxBody)
	right(t, "the edges", posted(math.MaxUint64, api.Message{Queue: "a", ID: 1, Tries: math.MaxUint32, Expiry: math.MaxUint64, Body: body}, api.Message{Queue: "a", ID: math.MaxUint64}), true)
	right(t, "in order", posted(9, api.Message{Queue: "a", ID: 1}, api.Message{Queue: "a", ID: 7}, api.Message{Queue: "b", ID: 2}, api.Message{Queue: "b", ID: 6}, api.Message{Queue: "b", ID: 9}), true)
	right(t, "of one alone", posted(1, api.Message{Queue: "b", ID: 1}), true)
	for what, m := range map[string]api.Message{
		"nothing":                {},
		"no number":              {Queue: "a"},
		"a number above all":     {Queue: "a", ID: 10},
		"a number at the end":    {Queue: "a", ID: math.MaxUint64},
		"no queue":               {ID: 5},
		"another queue":          {Queue: "c", ID: 5},
		"a queue between":        {Queue: "aa", ID: 5},
		"a body that is too big": {Queue: "a", ID: 5, Body: body + "b"},
	} {
		right(t, what, posted(9, m), false)
		right(t, what+", behind another one", posted(9, api.Message{Queue: "a", ID: 1}, m), false)
		right(t, what+", ahead of another one", posted(9, m, api.Message{Queue: "b", ID: 9}), false)
	}
	right(t, "without a last number", posted(0, api.Message{Queue: "a", ID: 1}), false)
	right(t, "twice", posted(9, api.Message{Queue: "a", ID: 1}, api.Message{Queue: "a", ID: 1}), false)
	right(t, "twice, in two queues", posted(9, api.Message{Queue: "a", ID: 1}, api.Message{Queue: "b", ID: 1}), false)
	right(t, "twice, far apart", posted(9, api.Message{Queue: "a", ID: 1}, api.Message{Queue: "a", ID: 2}, api.Message{Queue: "a", ID: 3}, api.Message{Queue: "b", ID: 2}), false)
	right(t, "not by their numbers", posted(9, api.Message{Queue: "a", ID: 2}, api.Message{Queue: "a", ID: 1}), false)
	right(t, "not by their numbers, of two bytes", posted(999, api.Message{Queue: "a", ID: 256}, api.Message{Queue: "a", ID: 2}), false)
	right(t, "not by their queues", posted(9, api.Message{Queue: "b", ID: 1}, api.Message{Queue: "a", ID: 2}), false)
	right(t, "without queues", dump.Dump{Last: 9, Messages: []api.Message{{Queue: "a", ID: 1}}}, false)
}

// Some of the changes leave what is right, all others don't.
func TestChangesAreRight(t *testing.T) {
	rights := []string{
		"the clock", "the last number", "a queue's Most", "a queue's TTL", "a queue's Tries", "a queue's Dead", "no bindings", "an exchange", "a key", "a binding's queue", "a binding more", "no messages", "a number", "a message's Tries", "an Expiry", "a body",
	}
	for what, change := range changes() {
		d := some()
		change(&d)
		right(t, what, d, slices.Contains(rights, what))
	}
}

// A writer that has something keeps what isn't told, and has what is told as it is told.
func TestLoadOverOthers(t *testing.T) {
	d := some()
	other := dump.Dump{Queues: []api.Queue{{Name: "0"}, {Name: "c"}}, Bindings: []api.Binding{binding("x", 1, "z", "c")}, Messages: []api.Message{{Queue: "a", ID: 77, Expiry: 9, Body: "other"}, {Queue: "c", ID: 78}}}
	beside := append(pairsOf(other), api.Pair{Key: "", Value: "none"}, api.Pair{Key: "\xff"}, counterPair("di", 3), api.Pair{Key: laid("e", uint64(8), "a", uint64(3))})
	elder := []api.Pair{
		queuePair(api.Queue{Name: "a", Most: 99}), bindPair(d.Bindings[0]), counterPair("id", 3),
		messagePair(api.Message{Queue: "a", ID: 2, Expiry: 80, Body: "elder"}), {Key: laid("e", uint64(80), "a", uint64(2))},
		messagePair(api.Message{Queue: "a", ID: 5, Expiry: 81, Body: "elder"}), {Key: laid("e", uint64(81), "a", uint64(5))},
		messagePair(api.Message{Queue: "b", ID: 4, Body: "elder"}),
		messagePair(api.Message{Queue: "aa", ID: 1, Expiry: api.MaxTime + 9}), {Key: laid("e", uint64(api.MaxTime+9), "aa", uint64(1))},
	}
	for what, w := range writers(t, append(slices.Clone(elder), beside...)...) {
		is(t, what+": Load", d.Load(w), api.OK)
		held(t, what+": what is told, and what was beside", w, append(pairsOf(d), beside...)...)
		is(t, what+": Load again", d.Load(w), api.OK)
		held(t, what+": as it was", w, append(pairsOf(d), beside...)...)
		d.Last = 0
		d.Messages = nil
		is(t, what+": Load without a number", d.Load(w), api.OK)
		d = some()
		held(t, what+": as it was", w, append(pairsOf(d), beside...)...)
		d.Messages[0].ID++
		is(t, what+": Load of what isn't right", d.Load(w), api.ErrForm)
		d = some()
		held(t, what+": as it was", w, append(pairsOf(d), beside...)...)
	}
}

// A broker that was loaded goes on where the other one was.
func TestALoadedBrokerGoesOn(t *testing.T) {
	w := registry.New()
	is(t, "loaded", some().Load(w), api.OK)
	s := &broker.State{W: w, Leases: lease.Keys(), Clock: some().Clock}
	r := s.Do(command.Command{Kind: command.Publish, Exchange: "f", Key: "any"})
	is(t, "published", r.Err, api.OK)
	alike(t, "the next numbers", r.IDs, []uint64{10, 11})
	r = s.Do(command.Command{Kind: command.Tick, Time: 1})
	is(t, "ticked", r.Err, api.OK)
	alike(t, "dead", r.Dead, []uint64{2})
	is(t, "none is lost", len(r.Lost), 0)
}
