package registry_test

import (
	"maps"
	"math/rand/v2"
	"slices"
	"strings"
	"testing"

	"taproot/api"
	"taproot/registry"
	"taproot/topic"
)

// model is what the words say, in maps.
type model struct {
	queues   map[string]api.Queue
	bindings map[api.Binding]int
	counters map[string]uint64
}

// name: is it one? By its bytes, one by one.
func name(s string) bool {
	return s != "" && len(s) <= api.MaxName && strings.Trim(s, "abcdefghijklmnopqrstuvwxyz") == ""
}

func (m *model) declare(q api.Queue) api.Errno {
	_, there := m.queues[q.Name]
	_, dead := m.queues[q.Dead]
	switch {
	case !name(q.Name) || q.Dead != "" && !name(q.Dead):
		return api.ErrName
	case q.Dead == q.Name:
		return api.ErrArg
	case q.TTL > api.MaxTime:
		return api.ErrTime
	case there:
		return api.ErrThere
	case q.Dead != "" && !dead:
		return api.ErrNone
	}
	m.queues[q.Name] = q
	return api.OK
}

func (m *model) drop(name string) api.Errno {
	if _, there := m.queues[name]; !there {
		return api.ErrNone
	}
	delete(m.queues, name)
	maps.DeleteFunc(m.bindings, func(b api.Binding, _ int) bool { return b.Queue == name })
	return api.OK
}

func (m *model) bind(b api.Binding) api.Errno {
	_, queue := m.queues[b.Queue]
	_, there := m.bindings[b]
	switch {
	case !name(b.Exchange) || !name(b.Queue):
		return api.ErrName
	case b.Kind < 1 || b.Kind > 3:
		return api.ErrKind
	case !topic.Right(b.Kind, b.Key):
		return api.ErrPattern
	case !queue:
		return api.ErrNone
	}
	for x := range m.bindings {
		if x.Exchange == b.Exchange && x.Kind != b.Kind {
			return api.ErrKind
		}
	}
	switch {
	case len(bindKey(b)) > api.MaxKey:
		return api.ErrLong
	case there:
		return api.ErrThere
	}
	m.bindings[b] = 1
	return api.OK
}

func (m *model) unbind(b api.Binding) api.Errno {
	if _, there := m.bindings[b]; !there {
		return api.ErrNone
	}
	delete(m.bindings, b)
	return api.OK
}

func (m *model) route(exchange, key string) ([]string, api.Errno) {
	_, there := m.queues[key]
	switch {
	case exchange == "" && !there:
		return nil, api.ErrNone
	case exchange == "":
		return []string{key}, api.OK
	case !name(exchange):
		return nil, api.ErrName
	case !topic.Key(key):
		return nil, api.ErrForm
	}
	l, e := map[string]int{}, api.ErrNone
	for b := range m.bindings {
		if b.Exchange == exchange {
			e = api.OK
			if topic.Fits(b.Kind, b.Key, key) {
				l[b.Queue] = 1
			}
		}
	}
	return slices.Sorted(maps.Keys(l)), e
}

// pairs are those that stand for all of it.
func (m *model) pairs() []api.Pair {
	var l []api.Pair
	for _, q := range m.queues {
		l = append(l, queuePair(q))
	}
	for b := range m.bindings {
		l = append(l, bindPair(b))
	}
	for name, n := range m.counters {
		l = append(l, counterPair(name, n))
	}
	return l
}

// rows are held against what the writer has.
func (m *model) rows(t *testing.T, w registry.Writer, exchange string) {
	t.Helper()
	var queues []api.Queue
	for _, name := range slices.Sorted(maps.Keys(m.queues)) {
		queues = append(queues, m.queues[name])
	}
	alike(t, "the queues", all(t, registry.Queues(w)), queues)
	var bindings []api.Binding
	for b := range m.bindings {
		if b.Exchange == exchange {
			bindings = append(bindings, b)
		}
	}
	slices.SortFunc(bindings, func(a, b api.Binding) int { return strings.Compare(bindKey(a), bindKey(b)) })
	alike(t, "the bindings", all(t, registry.Bindings(w, exchange)), bindings)
}

// dice makes what calls are told, mostly right.
type dice struct{ *rand.Rand }

func (d dice) of(l ...string) string { return l[d.IntN(len(l))] }

func (d dice) queue() string {
	return d.of("a", "b", "c", "dd", "ee", "ee", "a", "b", "c", "dd", "", "a.b", strings.Repeat("n", 33))
}

func (d dice) exchange() string { return d.of("x", "y", "xx", "a", "x", "y", "", "*") }

func (d dice) key() string {
	return d.of("", "k", "k.l", "k.l.m", "l", "", "k", "l.k", "..", strings.Repeat("w.", 8)+"w")
}

func (d dice) binding() api.Binding {
	b := binding(d.exchange(), d.IntN(5), d.key(), d.queue())
	switch {
	case b.Kind == api.Fanout && d.IntN(8) > 0:
		b.Key = ""
	case b.Kind == api.Topic:
		b.Key = d.of("#", "*", "k.*", "k.#", "#.l", "*.*", b.Key, strings.Repeat(strings.Repeat("w", 32)+".", 7)+"#")
	}
	return b
}

// One step of a writer, and of the model.
func (d dice) step(t *testing.T, w registry.Writer, m *model) {
	t.Helper()
	switch d.IntN(9) {
	case 0, 1:
		q := api.Queue{Name: d.queue(), Most: d.Uint32N(3), TTL: d.Uint64N(2) * d.Uint64N(api.MaxTime+2), Tries: d.Uint32N(3), Dead: d.of("", "", "", "a", "b", "dd", "#")}
		is(t, "Declare", registry.Declare(w, q), m.declare(q))
	case 2:
		if d.IntN(3) == 0 {
			name := d.queue()
			is(t, "Drop", registry.Drop(w, name), m.drop(name))
		}
	case 3, 4, 5:
		b := d.binding()
		is(t, "Bind", registry.Bind(w, b), m.bind(b))
	case 6:
		b := d.binding()
		if len(m.bindings) > 0 && d.IntN(3) > 0 {
			l := slices.SortedFunc(maps.Keys(m.bindings), func(a, b api.Binding) int { return strings.Compare(bindKey(a), bindKey(b)) })
			b = l[d.IntN(len(l))]
		}
		is(t, "Unbind", registry.Unbind(w, b), m.unbind(b))
	case 7:
		exchange, key := d.exchange(), d.of(d.key(), d.queue())
		l, e := registry.Route(w, exchange, key)
		want, wanted := m.route(exchange, key)
		is(t, "Route", e, wanted)
		alike(t, "the queues", l, want)
	case 8:
		counter := d.of("id", "", "other")
		m.counters[counter]++
		n, e := registry.Next(w, counter)
		is(t, "Next", e, api.OK)
		is(t, "the number", n, m.counters[counter])
	}
}

// Shelves and transactions against the model.
func TestByChance(t *testing.T) {
	for what := range writers(t) {
		for seed := range uint64(8) {
			d := dice{rand.New(rand.NewPCG(21, seed))}
			w := writers(t)[what]
			m := &model{queues: map[string]api.Queue{}, bindings: map[api.Binding]int{}, counters: map[string]uint64{}}
			most := 0
			for range 400 {
				d.step(t, w, m)
				most = max(most, len(m.bindings)*len(m.queues))
				held(t, what+" has what it should", w, m.pairs()...)
				m.rows(t, w, d.exchange())
				if t.Failed() {
					t.FailNow()
				}
			}
			if most < 10 {
				t.Errorf("chance made too little: %d", most)
			}
		}
	}
}
