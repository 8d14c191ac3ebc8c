package dump_test

import (
	"encoding/binary"
	"fmt"
	"iter"
	"maps"
	"slices"
	"strings"
	"testing"

	"taproot/api"
	"taproot/disk"
	"taproot/dump"
	"taproot/registry"
	"taproot/store"
)

// brief is a thing as text, if that isn't long.
func brief(x any) string {
	s := fmt.Sprintf("%+v", x)
	return s[:min(len(s), 500)]
}

func is[T comparable](t *testing.T, what string, got, want T) {
	t.Helper()
	if got != want {
		t.Errorf("%s: %s, wanted %s", what, brief(got), brief(want))
	}
}

// alike wants two lists to have the same things.
func alike[T comparable](t *testing.T, what string, got, want []T) {
	t.Helper()
	if !slices.Equal(got, want) {
		t.Errorf("%s: %s, wanted %s", what, brief(got), brief(want))
	}
}

// same wants two dumps to be alike, part by part.
func same(t *testing.T, what string, got, want dump.Dump) {
	t.Helper()
	is(t, what+": Clock", got.Clock, want.Clock)
	is(t, what+": Last", got.Last, want.Last)
	alike(t, what+": Queues", got.Queues, want.Queues)
	alike(t, what+": Bindings", got.Bindings, want.Bindings)
	alike(t, what+": Messages", got.Messages, want.Messages)
}

// laid is a key laid by hand, of numbers (uint64) and texts.
func laid(parts ...any) string {
	var b []byte
	for _, p := range parts {
		switch p := p.(type) {
		case uint64:
			b = binary.BigEndian.AppendUint64(append(b, 1), p)
		case string:
			b = append(b, 2)
			b = append(b, strings.ReplaceAll(p, "\x00", "\x00\xff")...)
			b = append(b, 0, 0)
		}
	}
	return string(b)
}

// wrote are bytes laid by hand: of texts they and how long they are, of numbers four bytes (uint32) or eight (uint64).
func wrote(parts ...any) string {
	var b []byte
	for _, p := range parts {
		switch p := p.(type) {
		case uint32:
			b = binary.BigEndian.AppendUint32(b, p)
		case uint64:
			b = binary.BigEndian.AppendUint64(b, p)
		case string:
			b = append(binary.BigEndian.AppendUint32(b, uint32(len(p))), p...)
		}
	}
	return string(b)
}

// queueBytes, messageBytes and counterBytes are what a broker keeps, laid by hand.
func queueBytes(q api.Queue) string { return "\x01" + wrote(q.Most, q.TTL, q.Tries, q.Dead) }

func messageBytes(m api.Message) string { return "\x01" + wrote(m.Tries, m.Expiry, m.Body) }

func counterBytes(n uint64) string { return "\x01" + wrote(n) }

// The pairs of a queue, a binding, a counter, a message.
func queuePair(q api.Queue) api.Pair {
	return api.Pair{Key: laid("q", q.Name), Value: queueBytes(q)}
}

func bindPair(b api.Binding) api.Pair {
	return api.Pair{Key: laid("b", b.Exchange, uint64(b.Kind), b.Key, b.Queue)}
}

func counterPair(name string, n uint64) api.Pair {
	return api.Pair{Key: laid("c", name), Value: counterBytes(n)}
}

func messagePair(m api.Message) api.Pair {
	return api.Pair{Key: laid("m", m.Queue, m.ID), Value: messageBytes(m)}
}

// pairsOf are all that a dump tells of, and the messages' terms.
func pairsOf(d dump.Dump) []api.Pair {
	var l []api.Pair
	for _, q := range d.Queues {
		l = append(l, queuePair(q))
	}
	for _, b := range d.Bindings {
		l = append(l, bindPair(b))
	}
	for _, m := range d.Messages {
		l = append(l, messagePair(m))
		if m.Expiry != 0 {
			l = append(l, api.Pair{Key: laid("e", m.Expiry, m.Queue, m.ID)})
		}
	}
	if d.Last != 0 {
		l = append(l, counterPair("id", d.Last))
	}
	return l
}

// bytesOf are a dump's, laid by hand.
func bytesOf(d dump.Dump) string {
	b := wrote(d.Clock, d.Last, uint32(len(d.Queues)))
	for _, q := range d.Queues {
		b += wrote(q.Name, queueBytes(q))
	}
	b += wrote(uint32(len(d.Bindings)))
	for _, x := range d.Bindings {
		b += wrote(x.Exchange, uint64(x.Kind), x.Key, x.Queue)
	}
	b += wrote(uint32(len(d.Messages)))
	for _, m := range d.Messages {
		b += wrote(m.Queue, m.ID, messageBytes(m))
	}
	return b
}

// binding is one, in the order of what its key tells.
func binding(exchange string, kind int, key, queue string) api.Binding {
	return api.Binding{Exchange: exchange, Kind: kind, Key: key, Queue: queue}
}

// some is a dump that is right, with something of each sort.
func some() dump.Dump {
	return dump.Dump{
		Clock: 7,
		Last:  9,
		Queues: []api.Queue{
			{Name: "A-1", Dead: "gone"}, {Name: "a", Most: 4, TTL: api.MaxTime, Tries: 3, Dead: "b"}, {Name: "aa"}, {Name: "b", TTL: 5, Dead: "a"},
		},
		Bindings: []api.Binding{
			binding("f", api.Fanout, "", "a"), binding("f", api.Fanout, "", "b"), binding("t", api.Topic, "#", "aa"), binding("t", api.Topic, "a.*", "a"), binding("t", api.Topic, "a.*", "b"), binding("x", api.Direct, "", "b"), binding("x", api.Direct, "k.l", "a"),
		},
		Messages: []api.Message{
			{Queue: "A-1", ID: 9, Body: "last"}, {Queue: "a", ID: 2, Tries: 3, Expiry: 8, Body: "hi"}, {Queue: "a", ID: 5}, {Queue: "aa", ID: 1, Expiry: api.MaxTime + 9}, {Queue: "b", ID: 4, Body: strings.Repeat("b", api.MaxBody)},
		},
	}
}

// copied is a dump that shares no list with another one.
func copied(d dump.Dump) dump.Dump {
	d.Queues, d.Bindings, d.Messages = slices.Clone(d.Queues), slices.Clone(d.Bindings), slices.Clone(d.Messages)
	return d
}

// told wants a reader to have just what a dump tells.
func told(t *testing.T, what string, r registry.Reader, want dump.Dump) {
	t.Helper()
	d, e := dump.Of(r, want.Clock)
	is(t, what+": Of", e, api.OK)
	same(t, what, d, want)
}

// all wants a row without an error, and answers what it gives.
func all[T any](t *testing.T, r iter.Seq2[T, api.Errno]) []T {
	t.Helper()
	var l []T
	for x, e := range r {
		is(t, "a row", e, api.OK)
		l = append(l, x)
	}
	return l
}

// held wants a reader to have just these pairs.
func held(t *testing.T, what string, r registry.Reader, want ...api.Pair) {
	t.Helper()
	m := map[string]api.Pair{}
	for _, p := range want {
		m[p.Key] = p
	}
	var l []api.Pair
	for _, key := range slices.Sorted(maps.Keys(m)) {
		l = append(l, m[key])
	}
	alike(t, what, all(t, r.Range("", "")), l)
}

// writers are a shelf, and a transaction on a disk, that have these pairs.
func writers(t *testing.T, l ...api.Pair) map[string]registry.Writer {
	t.Helper()
	d, e := disk.New(400)
	is(t, "a disk", e, api.OK)
	s, e := store.Open(d)
	is(t, "a store", e, api.OK)
	x, e := s.Begin()
	is(t, "a transaction", e, api.OK)
	for _, p := range l {
		is(t, "put", x.Put(p.Key, p.Value), api.OK)
	}
	return map[string]registry.Writer{"a shelf": registry.New(l...), "a transaction": x}
}

// failing is a writer of which one step fails: then it tells the error beside what it has, and must not be asked any more.
type failing struct {
	*registry.Shelf
	t    *testing.T
	left int // steps ahead of that
	err  api.Errno
	gone bool
}

// step is the error of the next one.
func (f *failing) step() api.Errno {
	if f.gone {
		f.t.Errorf("asked behind an error")
	}
	f.left--
	if f.left >= 0 {
		return api.OK
	}
	f.gone = true
	return f.err
}

func (f *failing) Get(key string) (string, bool, api.Errno) {
	value, there, _ := f.Shelf.Get(key)
	return value, there, f.step()
}

func (f *failing) Range(from, to string) iter.Seq2[api.Pair, api.Errno] {
	return func(yield func(api.Pair, api.Errno) bool) {
		for p := range f.Shelf.Range(from, to) {
			e := f.step()
			if !yield(p, e) || e != api.OK {
				return
			}
		}
		if e := f.step(); e != api.OK { // behind the last pair, too
			yield(api.Pair{Key: "a"}, e)
		}
	}
}

func (f *failing) Put(key, value string) api.Errno {
	if e := f.step(); e != api.OK {
		return e
	}
	return f.Shelf.Put(key, value)
}

func (f *failing) Cut(key string) (bool, api.Errno) {
	if e := f.step(); e != api.OK {
		return true, e
	}
	return f.Shelf.Cut(key)
}
