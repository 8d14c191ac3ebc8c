package registry_test

import (
	"math"
	"strings"
	"testing"

	"taproot/api"
	"taproot/registry"
)

// found wants a queue to be found.
func found(t *testing.T, r registry.Reader, want api.Queue) {
	t.Helper()
	q, e := registry.Find(r, want.Name)
	is(t, "found", e, api.OK)
	is(t, "the queue", q, want)
}

// missing wants none of a name.
func missing(t *testing.T, r registry.Reader, name string) {
	t.Helper()
	q, e := registry.Find(r, name)
	is(t, "not found", e, api.ErrNone)
	is(t, "no queue", q, api.Queue{})
}

func TestDeclareAndFind(t *testing.T) {
	longest := strings.Repeat("n", api.MaxName)
	a := api.Queue{Name: "a"}
	b := api.Queue{Name: longest, Most: 1, TTL: api.MaxTime, Tries: math.MaxUint32, Dead: "a"}
	c := api.Queue{Name: "c-_9", Most: math.MaxUint32, TTL: 1, Tries: 3, Dead: longest}
	for what, w := range writers(t) {
		t.Run(what, func(t *testing.T) {
			missing(t, w, "a")
			for _, q := range []api.Queue{a, b, c} {
				is(t, "declared", registry.Declare(w, q), api.OK)
				found(t, w, q)
				is(t, "declared again", registry.Declare(w, q), api.ErrThere)
				is(t, "another of that name", registry.Declare(w, api.Queue{Name: q.Name, Most: 7}), api.ErrThere)
				found(t, w, q)
			}
			for _, name := range []string{"", "A", "aa", "b", longest[1:], "q", "a\x00", strings.Repeat("n", 248), strings.Repeat("n", 249), strings.Repeat("n", 100000)} {
				missing(t, w, name)
			}
			held(t, "the pairs", w, queuePair(a), queuePair(b), queuePair(c))
		})
	}
}

// What stands under a queue's key is that queue, whatever its name is.
func TestFindWhatNobodyDeclared(t *testing.T) {
	for _, name := range []string{"", "a b", "a\x00b", strings.Repeat("n", 248)} {
		q := api.Queue{Name: name, TTL: math.MaxUint64, Dead: " "}
		found(t, registry.New(queuePair(q)), q)
	}
}

func TestDeclareErrors(t *testing.T) {
	longer := strings.Repeat("n", api.MaxName+1)
	there := queuePair(api.Queue{Name: "a"})
	wrong := []struct {
		what string
		q    api.Queue
		want api.Errno
	}{
		{"no name", api.Queue{}, api.ErrName},
		{"no name, and no Dead's", api.Queue{Dead: "a"}, api.ErrName},
		{"a pattern", api.Queue{Name: "*"}, api.ErrName},
		{"two words", api.Queue{Name: "a.b"}, api.ErrName},
		{"a byte 0", api.Queue{Name: "a\x00"}, api.ErrName},
		{"a name that is too long", api.Queue{Name: longer}, api.ErrName},
		{"one that is far too long", api.Queue{Name: strings.Repeat("n", 100000)}, api.ErrName},
		{"a Dead that is no name", api.Queue{Name: "b", Dead: "a b"}, api.ErrName},
		{"a Dead that is too long", api.Queue{Name: "b", Dead: longer}, api.ErrName},
		{"a name ahead of all", api.Queue{Name: "#", Dead: "#", TTL: math.MaxUint64}, api.ErrName},
		{"a Dead's name ahead of the time", api.Queue{Name: "a", Dead: "#", TTL: math.MaxUint64}, api.ErrName},
		{"itself", api.Queue{Name: "b", Dead: "b"}, api.ErrArg},
		{"itself ahead of the time", api.Queue{Name: "a", Dead: "a", TTL: math.MaxUint64}, api.ErrArg},
		{"a time", api.Queue{Name: "b", TTL: api.MaxTime + 1}, api.ErrTime},
		{"the greatest time", api.Queue{Name: "b", TTL: math.MaxUint64}, api.ErrTime},
		{"a time ahead of what is there", api.Queue{Name: "a", TTL: api.MaxTime + 1, Dead: "c"}, api.ErrTime},
		{"what is there", api.Queue{Name: "a"}, api.ErrThere},
		{"what is there ahead of a Dead that isn't", api.Queue{Name: "a", Dead: "c"}, api.ErrThere},
		{"a Dead that isn't", api.Queue{Name: "b", Dead: "c"}, api.ErrNone},
	}
	for what, w := range writers(t, there) {
		for _, x := range wrong {
			is(t, what+": "+x.what, registry.Declare(w, x.q), x.want)
		}
		held(t, what+" has what it had", w, there)
	}
}

func TestQueues(t *testing.T) {
	longest := strings.Repeat("n", api.MaxName)
	want := []api.Queue{{Name: "-"}, {Name: "0"}, {Name: "A"}, {Name: "_"}, {Name: "a", Most: 3, TTL: 4, Tries: 5, Dead: "_"}, {Name: "aa"}, {Name: "b"}, {Name: longest}}
	others := []api.Pair{
		counterPair("a", 7), bindPair(binding("a", 1, "a", "a")), {Key: laid("m", "a", 7)}, {Key: laid("e", 7, "a", 7)}, {Key: laid("p", "a")}, {Key: laid("r", "a")}, {Key: ""}, {Key: "\xff"}, {Key: "q"}, {Key: laid("qq", "a")},
	}
	for what, w := range writers(t, others...) {
		t.Run(what, func(t *testing.T) {
			row := registry.Queues(w)
			is(t, "none", len(all(t, row)), 0)
			for _, i := range []int{3, 7, 0, 6, 1, 5, 2, 4} {
				is(t, "declared", registry.Declare(w, want[i]), api.OK)
			}
			for range 2 {
				alike(t, "in their keys' order", all(t, row), want)
			}
			for most := range want {
				n := 0
				for q, e := range registry.Queues(w) {
					is(t, "OK", e, api.OK)
					is(t, "the next one", q, want[n])
					n++
					if n > most {
						break
					}
				}
				is(t, "left", n, most+1)
			}
		})
	}
	is(t, "of an empty shelf", len(all(t, registry.Queues(registry.New()))), 0)
}

func TestDrop(t *testing.T) {
	a, b, c := queuePair(api.Queue{Name: "a"}), queuePair(api.Queue{Name: "b", Dead: "a"}), queuePair(api.Queue{Name: "aa"})
	to := []api.Pair{bindPair(binding("x", 1, "k", "a")), bindPair(binding("x", 1, "l", "a")), bindPair(binding("a", 2, "", "a")), bindPair(binding("y", 3, "a.#", "a")), bindPair(binding("", 0, "", "a")), bindPair(binding("z", -1, "", "a"))}
	stay := []api.Pair{
		b, c, bindPair(binding("a", 1, "a", "b")), bindPair(binding("x", 1, "k", "b")), bindPair(binding("x", 1, "k", "aa")), bindPair(binding("x", 1, "k", "")),
		counterPair("a", 7), {Key: laid("m", "a", 7), Value: "hi"}, {Key: laid("e", 7, "a", 7)}, {Key: ""}, {Key: "\xff"},
	}
	for what, w := range writers(t, append(append([]api.Pair{a}, to...), stay...)...) {
		t.Run(what, func(t *testing.T) {
			for _, name := range []string{"", "x", "A", "a\x00", strings.Repeat("n", 100000)} {
				is(t, "none", registry.Drop(w, name), api.ErrNone)
			}
			is(t, "dropped", registry.Drop(w, "a"), api.OK)
			missing(t, w, "a")
			held(t, "it and its bindings are gone, and nothing else", w, stay...)
			is(t, "dropped again", registry.Drop(w, "a"), api.ErrNone)
			is(t, "declared again", registry.Declare(w, api.Queue{Name: "a"}), api.OK)
			held(t, "nothing leads to it", w, append([]api.Pair{a}, stay...)...)
		})
	}
}

func TestNext(t *testing.T) {
	others := []api.Pair{counterPair("id\x00", 50), counterPair("i", 60), queuePair(api.Queue{Name: "id"})}
	for what, w := range writers(t, others...) {
		t.Run(what, func(t *testing.T) {
			for want := uint64(1); want < 300; want++ {
				n, e := registry.Next(w, "id")
				is(t, "OK", e, api.OK)
				is(t, "the next number", n, want)
				held(t, "which it is then", w, append([]api.Pair{counterPair("id", want)}, others...)...)
			}
			n, e := registry.Next(w, "")
			is(t, "any counter", n == 1 && e == api.OK, true)
			n, e = registry.Next(w, strings.Repeat("n", 248))
			is(t, "the longest", n == 1 && e == api.OK, true)
			for _, name := range []string{strings.Repeat("n", 249), strings.Repeat("n", 100000), strings.Repeat("\x00", 125)} {
				n, e = registry.Next(w, name)
				is(t, "too long", e, api.ErrLong)
				is(t, "no number", n, 0)
			}
			held(t, "nothing else", w, append([]api.Pair{counterPair("id", 299), counterPair("", 1), counterPair(strings.Repeat("n", 248), 1)}, others...)...)
		})
	}
}

func TestNextOfGreatNumbers(t *testing.T) {
	for _, was := range []uint64{0, 1, 255, math.MaxUint32, 1 << 63, math.MaxUint64 - 1} {
		s := registry.New(counterPair("id", was))
		n, e := registry.Next(s, "id")
		is(t, "OK", e, api.OK)
		is(t, "one more", n, was+1)
		held(t, "which it is then", s, counterPair("id", was+1))
	}
	for what, w := range writers(t, counterPair("id", math.MaxUint64)) {
		n, e := registry.Next(w, "id")
		is(t, what+": no number is left", e, api.ErrRange)
		is(t, "no number", n, 0)
		held(t, "as it was", w, counterPair("id", math.MaxUint64))
	}
}
