package dump_test

import (
	"math"
	"slices"
	"strings"
	"testing"

	"taproot/api"
	"taproot/broker"
	"taproot/command"
	"taproot/dump"
	"taproot/lease"
	"taproot/registry"
)

func TestOfNothing(t *testing.T) {
	for what, w := range writers(t) {
		told(t, what, w, dump.Dump{})
		told(t, what+", with a clock", w, dump.Dump{Clock: math.MaxUint64})
	}
	var none *registry.Shelf
	told(t, "no shelf", none, dump.Dump{Clock: 3})
	told(t, "a zero shelf", &registry.Shelf{}, dump.Dump{Clock: 3})
}

func TestOf(t *testing.T) {
	want := some()
	for what, w := range writers(t, pairsOf(want)...) {
		told(t, what, w, want)
		held(t, what+" has what it had", w, pairsOf(want)...)
		want.Clock = 0
		told(t, what+", without a clock", w, want)
	}
}

// Whatever isn't of a broker, or is of one, but isn't told, is passed over.
func TestOfWhatStandsBeside(t *testing.T) {
	want := some()
	others := []api.Pair{
		{Key: ""}, {Key: "\xff"}, {Key: "q"}, {Key: laid("qq", "a")}, {Key: laid("p", "a")}, {Key: laid("r", "a")}, {Key: laid("bb", "x")}, {Key: laid("a", "x", uint64(1), "k", "a")},
		{Key: laid("mm", "a", uint64(1))}, {Key: laid("l", "a", uint64(1))}, {Key: laid("n", "a", uint64(1))}, counterPair("i", 70), counterPair("idd", 71), counterPair("", 72), {Key: laid("c"), Value: "hi"},
		{Key: laid("e", uint64(1), "a", uint64(1)), Value: "hi"}, {Key: laid("e", "a")}, {Key: laid("e", uint64(7), "zz", uint64(7))},
	}
	for what, w := range writers(t, append(pairsOf(want), others...)...) {
		told(t, what, w, want)
	}
}

// What nobody could have laid is told as it stands, in its keys' order.
func TestOfWhatIsNotRight(t *testing.T) {
	want := dump.Dump{
		Last:   math.MaxUint64,
		Queues: []api.Queue{{Name: ""}, {Name: "\x00", Dead: "\x00"}, {Name: "a", TTL: math.MaxUint64}, {Name: "a\x00"}, {Name: "a\x00\x00"}, {Name: "a\x01"}, {Name: "b."}, {Name: strings.Repeat("q", 100)}},
		Bindings: []api.Binding{
			binding("", 0, "", ""), binding("x", 1, "..", "none"), binding("x", 3, "k", "a"), binding("x", 256, "k", "a"), binding("x", math.MaxInt, "", ""), binding("x", -5, "", ""), binding("x", -1, "z", "z"), binding("x\x00", 1, "", "a"),
		},
		Messages: []api.Message{{Queue: "", ID: 0, Body: "none"}, {Queue: "a", ID: 0}, {Queue: "a", ID: 7, Body: "one"}, {Queue: "a", ID: math.MaxUint64}, {Queue: "a\x00", ID: 7, Body: "two"}, {Queue: strings.Repeat("q", 100), ID: 8}},
	}
	for what, w := range writers(t, pairsOf(want)...) {
		told(t, what, w, want)
		is(t, what+": Right", want.Right(), false)
	}
}

// The messages are the queues': those of none aren't told.
func TestOfMessagesWithoutAQueue(t *testing.T) {
	want := some()
	l := append(pairsOf(want), messagePair(api.Message{Queue: "0", ID: 3}), messagePair(api.Message{Queue: "ab", ID: 6}), messagePair(api.Message{Queue: "z", ID: 7}))
	told(t, "a shelf", registry.New(l...), want)
}

// What a broker did is told: what stays, not what was lent, nor what is gone.
func TestOfABroker(t *testing.T) {
	w := registry.New()
	s := &broker.State{W: w, Leases: lease.Keys()}
	a, b, c := api.Queue{Name: "a", Tries: 1, Dead: "b"}, api.Queue{Name: "b", TTL: 20}, api.Queue{Name: "c"}
	for _, x := range []command.Command{
		{Kind: command.Declare, Queue: b},
		{Kind: command.Declare, Queue: a},
		{Kind: command.Declare, Queue: c},
		{Kind: command.Bind, Binding: binding("x", api.Topic, "k.#", "a")},
		{Kind: command.Bind, Binding: binding("x", api.Topic, "#", "c")},
		{Kind: command.Tick, Time: 2},
		{Kind: command.Publish, Exchange: "x", Key: "k.l", Body: "hi", Time: 90},
		{Kind: command.Publish, Key: "a", Body: "more"},
		{Kind: command.Deliver, Queue: api.Queue{Name: "a"}, N: 2, Time: 5},
		{Kind: command.Nack, Queue: api.Queue{Name: "a"}, ID: 1, Token: 1, Dead: true},
		{Kind: command.Publish, Key: "c"},
		{Kind: command.Drop, Queue: api.Queue{Name: "c"}},
	} {
		is(t, "done", s.Do(x).Err, api.OK)
	}
	want := dump.Dump{
		Clock:    s.Clock,
		Last:     4,
		Queues:   []api.Queue{a, b},
		Bindings: []api.Binding{binding("x", api.Topic, "k.#", "a")},
		Messages: []api.Message{{Queue: "a", ID: 3, Tries: 1, Body: "more"}, {Queue: "b", ID: 1, Expiry: 22, Body: "hi"}},
	}
	told(t, "a broker", w, want)
	is(t, "right", want.Right(), true)
	is(t, "dropped", s.Do(command.Command{Kind: command.Drop, Queue: b}).Err, api.ErrForm)
	is(t, "dropped", s.Do(command.Command{Kind: command.Drop, Queue: api.Queue{Name: "b"}}).Err, api.OK)
	want.Queues, want.Messages = want.Queues[:1], want.Messages[:1]
	told(t, "without the queue of the dead", w, want)
	is(t, "right", want.Right(), true)
}

func TestSame(t *testing.T) {
	is(t, "nothing", dump.Same(dump.Dump{}, dump.Dump{}), true)
	is(t, "no list, and an empty one", dump.Same(dump.Dump{}, dump.Dump{Queues: []api.Queue{}, Bindings: []api.Binding{}, Messages: []api.Message{}}), true)
	d := some()
	is(t, "itself", dump.Same(d, d), true)
	is(t, "a copy", dump.Same(d, copied(d)), true)
	for what, change := range changes() {
		x := copied(d)
		change(&x)
		is(t, what, dump.Same(d, x), false)
		is(t, what, dump.Same(x, d), false)
		is(t, what+", and itself", dump.Same(x, copied(x)), true)
	}
}

// changes are some, one for each part of a dump.
func changes() map[string]func(d *dump.Dump) {
	return map[string]func(d *dump.Dump){
		"the clock":         func(d *dump.Dump) { d.Clock++ },
		"the last number":   func(d *dump.Dump) { d.Last++ },
		"no queues":         func(d *dump.Dump) { d.Queues = nil },
		"a queue less":      func(d *dump.Dump) { d.Queues = d.Queues[:3] },
		"a queue's name":    func(d *dump.Dump) { d.Queues[2].Name = "ab" },
		"a queue's Most":    func(d *dump.Dump) { d.Queues[1].Most++ },
		"a queue's TTL":     func(d *dump.Dump) { d.Queues[3].TTL++ },
		"a queue's Tries":   func(d *dump.Dump) { d.Queues[0].Tries++ },
		"a queue's Dead":    func(d *dump.Dump) { d.Queues[0].Dead = "" },
		"queues' order":     func(d *dump.Dump) { slices.Reverse(d.Queues) },
		"no bindings":       func(d *dump.Dump) { d.Bindings = nil },
		"an exchange":       func(d *dump.Dump) { d.Bindings[0].Exchange = "e" },
		"a kind":            func(d *dump.Dump) { d.Bindings[0].Kind = -1 },
		"a key":             func(d *dump.Dump) { d.Bindings[6].Key = "k" },
		"a binding's queue": func(d *dump.Dump) { d.Bindings[6].Queue = "b" },
		"bindings' order":   func(d *dump.Dump) { slices.Reverse(d.Bindings) },
		"a binding more":    func(d *dump.Dump) { d.Bindings = append(d.Bindings, binding("y", 1, "", "a")) },
		"no messages":       func(d *dump.Dump) { d.Messages = nil },
		"a message's queue": func(d *dump.Dump) { d.Messages[1].Queue = "A-1" },
		"a number":          func(d *dump.Dump) { d.Messages[2].ID++ },
		"a message's Tries": func(d *dump.Dump) { d.Messages[2].Tries++ },
		"an Expiry":         func(d *dump.Dump) { d.Messages[2].Expiry++ },
		"a body":            func(d *dump.Dump) { d.Messages[2].Body = "\x00" },
		"messages' order":   func(d *dump.Dump) { slices.Reverse(d.Messages) },
	}
}

// No two answers share a list.
func TestAnswersAreNew(t *testing.T) {
	w := registry.New(pairsOf(some())...)
	bytes := some().Bytes()
	for what, read := range map[string]func() (dump.Dump, api.Errno){
		"Of":    func() (dump.Dump, api.Errno) { return dump.Of(w, 7) },
		"Parse": func() (dump.Dump, api.Errno) { return dump.Parse(bytes) },
	} {
		one, e := read()
		is(t, what, e, api.OK)
		two, _ := read()
		_ = append(one.Queues[:1], one.Queues[2:]...)
		_ = append(one.Bindings[:1], one.Bindings[2:]...)
		_ = append(one.Messages[:1], one.Messages[2:]...)
		same(t, what+": the other one", two, some())
		told(t, what+": the shelf", w, some())
	}
}

// What is handed in is left as it is, spare room included.
func TestWhatIsHandedInStays(t *testing.T) {
	whole := some()
	whole.Queues = append(whole.Queues, api.Queue{Name: "spare"})
	whole.Bindings = append(whole.Bindings, binding("spare", 2, "", "a"))
	whole.Messages = append(whole.Messages, api.Message{Queue: "b", ID: 8})
	want := copied(whole)
	d := whole
	d.Queues, d.Bindings, d.Messages = d.Queues[:4], d.Bindings[:7], d.Messages[:5]
	w := registry.New()
	is(t, "right", d.Right(), true)
	is(t, "loaded", d.Load(w), api.OK)
	is(t, "the same", dump.Same(d, some()), true)
	d.Bytes()
	same(t, "as it was", whole, want)
	d.Queues[0].Name, d.Messages[0].Body = "other", "other"
	told(t, "what was loaded", w, some())
}
