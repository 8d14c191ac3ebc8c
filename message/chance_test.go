package message_test

import (
	"cmp"
	"iter"
	"maps"
	"math/rand/v2"
	"slices"
	"strings"
	"testing"

	"taproot/api"
	"taproot/disk"
	"taproot/message"
	"taproot/registry"
	"taproot/store"
)

// place is where a message stands.
type place struct {
	queue string
	id    uint64
}

// model is what the words say, in a map.
type model map[place]api.Message

func of(m api.Message) place { return place{m.Queue, m.ID} }

// messages are those that are so, by the queue, then by the number.
func (x model) messages(so func(api.Message) bool) []api.Message {
	l := slices.SortedFunc(maps.Values(x), func(a, b api.Message) int {
		return cmp.Or(strings.Compare(a.Queue, b.Queue), cmp.Compare(a.ID, b.ID))
	})
	return slices.DeleteFunc(l, func(m api.Message) bool { return !so(m) })
}

// due are those whose term has come.
func (x model) due(now uint64) []api.Message {
	l := x.messages(func(m api.Message) bool { return m.Expiry != 0 && m.Expiry <= now })
	slices.SortStableFunc(l, func(a, b api.Message) int { return cmp.Compare(a.Expiry, b.Expiry) })
	return l
}

func (x model) add(m api.Message) api.Errno {
	if _, there := x[of(m)]; there {
		return api.ErrThere
	}
	x[of(m)] = m
	return api.OK
}

func (x model) save(m api.Message) api.Errno {
	if _, there := x[of(m)]; !there {
		return api.ErrNone
	}
	x[of(m)] = m
	return api.OK
}

func (x model) take(p place) (api.Message, api.Errno) {
	m, there := x[p]
	if !there {
		return m, api.ErrNone
	}
	delete(x, p)
	return m, api.OK
}

func (x model) move(p place, to api.Message) api.Errno {
	if _, e := x.take(p); e != api.OK {
		return e
	}
	return x.add(to)
}

func (x model) clear(queue string) int {
	n := len(x)
	maps.DeleteFunc(x, func(p place, _ api.Message) bool { return p.queue == queue })
	return n - len(x)
}

// dice makes what calls are told.
type dice struct{ *rand.Rand }

func (d dice) queue() string { return []string{"a", "b", "aa", "a\x00", ""}[d.IntN(5)] }

func (d dice) message() api.Message {
	body := []string{"", "hi", strings.Repeat("b", d.IntN(500)), strings.Repeat("c", d.IntN(9000))}
	return api.Message{Queue: d.queue(), ID: d.Uint64N(12), Tries: d.Uint32N(3), Expiry: d.Uint64N(2) * d.Uint64N(9), Body: body[d.IntN(4)]}
}

// step is one of a writer, and of the model.
func (d dice) step(t *testing.T, w registry.Writer, x model) {
	t.Helper()
	m := d.message()
	switch d.IntN(12) {
	case 0, 1, 2, 3:
		is(t, "Add", message.Add(w, m), x.add(m))
	case 4, 5, 6:
		is(t, "Save", message.Save(w, m), x.save(m))
	case 7, 8:
		got, e := message.Take(w, m.Queue, m.ID)
		want, wanted := x.take(of(m))
		is(t, "Take", e, wanted)
		is(t, "what was taken", got, want)
	case 9, 10:
		to := d.message()
		is(t, "Move", message.Move(w, m, to), x.move(of(m), to))
	case 11:
		if d.IntN(4) == 0 {
			n, e := message.Clear(w, m.Queue)
			is(t, "Clear", e, api.OK)
			is(t, "how many", n, x.clear(m.Queue))
		}
	}
}

// rows are held against what the reader has.
func (d dice) rows(t *testing.T, r registry.Reader, x model) {
	t.Helper()
	queue, from, now := d.queue(), d.Uint64N(12), d.Uint64N(9)
	want := x.messages(func(m api.Message) bool { return m.Queue == queue && m.ID >= from })
	alike(t, "List", all(t, message.List(r, queue, from)), want)
	alike(t, "Due", all(t, message.Due(r, now)), x.due(now))
	n, e := message.Count(r, queue)
	is(t, "Count", e, api.OK)
	is(t, "how many", n, len(x.messages(func(m api.Message) bool { return m.Queue == queue })))
	m, e := message.Get(r, queue, from)
	want2, there := x[place{queue, from}]
	is(t, "Get", e == api.OK && there || e == api.ErrNone && !there, true)
	is(t, "what was got", m, want2)
}

// Shelves and transactions against the model: each message and its term are there just once, and nothing else is.
func TestByChance(t *testing.T) {
	for what := range writers(t) {
		for seed := range uint64(6) {
			d := dice{rand.New(rand.NewPCG(22, seed))}
			w := writers(t, others()...)[what]
			x := model{}
			most := 0
			for range 300 {
				d.step(t, w, x)
				most = max(most, len(x))
				held(t, what+" has what it should", w, append(others(), pairsOf(slices.Collect(maps.Values(x))...)...)...)
				d.rows(t, w, x)
				if t.Failed() {
					t.FailNow()
				}
			}
			if most < 15 {
				t.Errorf("chance made too little: %d", most)
			}
		}
	}
}

// What is committed is told by views, and by snapshots as it was then.
func TestCommitted(t *testing.T) {
	d := dice{rand.New(rand.NewPCG(22, 99))}
	disk, _ := disk.New(900)
	s, e := store.Open(disk)
	is(t, "a store", e, api.OK)
	x := model{}
	was := map[int]model{}
	for range 30 {
		w, e := s.Begin()
		is(t, "a transaction", e, api.OK)
		for range 20 {
			d.step(t, w, x)
		}
		is(t, "committed", s.Commit(0), api.OK)
		d.rows(t, s.Now(), x)
		n, e := s.Snap()
		is(t, "a snapshot", e, api.OK)
		was[n] = maps.Clone(x)
		for n, x := range was {
			v, e := s.Snapped(n)
			is(t, "a snapshot", e, api.OK)
			d.rows(t, v, x)
		}
		if len(was) > 5 {
			is(t, "closed", s.Close(n-5), api.OK)
			delete(was, n-5)
		}
		if t.Failed() {
			t.FailNow()
		}
	}
}

// counting is a shelf whose pairs are counted as they are put.
type counting struct {
	*registry.Shelf
	puts int
}

func (c *counting) Put(key, value string) api.Errno {
	c.puts++
	return c.Shelf.Put(key, value)
}

// A term that stands isn't put again, and rows ask no more than they give.
func TestNothingMoreIsDone(t *testing.T) {
	m := api.Message{Queue: "a", ID: 1, Expiry: 5}
	w := &counting{Shelf: registry.New(pairsOf(m)...)}
	m.Tries = 1
	is(t, "saved", message.Save(w, m), api.OK)
	is(t, "one pair was put", w.puts, 1)
	for name, row := range map[string]func(registry.Reader) iter.Seq2[api.Message, api.Errno]{
		"List": func(r registry.Reader) iter.Seq2[api.Message, api.Errno] { return message.List(r, "a", 0) },
		"Due":  func(r registry.Reader) iter.Seq2[api.Message, api.Errno] { return message.Due(r, 9) },
	} {
		r := &failing{Shelf: registry.New(there()...), t: t, left: 2, err: api.ErrSum}
		for range row(r) {
			break
		}
		is(t, name+": no more was asked", r.gone, false)
	}
}
