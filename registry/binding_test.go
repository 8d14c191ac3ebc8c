package registry_test

import (
	"math"
	"slices"
	"strings"
	"testing"

	"taproot/api"
	"taproot/registry"
)

// declared are some queues.
func declared(names ...string) []api.Pair {
	var l []api.Pair
	for _, name := range names {
		l = append(l, queuePair(api.Queue{Name: name}))
	}
	return l
}

func TestBindAndUnbind(t *testing.T) {
	longest := strings.Repeat("n", api.MaxName)
	queues := declared("a", "b", longest)
	some := []api.Binding{
		binding("d", api.Direct, "", "a"), binding("d", api.Direct, "k", "a"), binding("d", api.Direct, "k", "b"), binding("d", api.Direct, "k.l", "a"),
		binding("f", api.Fanout, "", "a"), binding("f", api.Fanout, "", "b"),
		binding("t", api.Topic, "", "a"), binding("t", api.Topic, "#", "a"), binding("t", api.Topic, "k.*", "a"), binding("t", api.Topic, "k", "a"),
		binding("a", api.Fanout, "", "a"),
		binding(longest, api.Topic, strings.Repeat("w.", 7)+"#", longest), binding(longest, api.Topic, "#", longest),
	}
	for what, w := range writers(t, queues...) {
		t.Run(what, func(t *testing.T) {
			want := slices.Clone(queues)
			for _, b := range some {
				is(t, "not there yet", registry.Unbind(w, b), api.ErrNone)
				is(t, "bound", registry.Bind(w, b), api.OK)
				want = append(want, bindPair(b))
				held(t, "it is there", w, want...)
				is(t, "bound again", registry.Bind(w, b), api.ErrThere)
			}
			for _, b := range slices.Backward(some) {
				is(t, "unbound", registry.Unbind(w, b), api.OK)
				want = want[:len(want)-1]
				held(t, "it is gone", w, want...)
				is(t, "unbound again", registry.Unbind(w, b), api.ErrNone)
			}
			is(t, "of what has no bindings any kind", registry.Bind(w, binding("d", api.Topic, "k", "a")), api.OK)
		})
	}
}

func TestBindErrors(t *testing.T) {
	longer := strings.Repeat("n", api.MaxName+1)
	long := strings.Join(slices.Repeat([]string{strings.Repeat("w", api.MaxName)}, api.MaxWords), ".")
	there := append(declared("a", "b"), bindPair(binding("x", api.Direct, "k", "a")), bindPair(binding("t", api.Topic, "k", "a")), bindPair(binding("xx", api.Topic, "k", "a")))
	wrong := []struct {
		what string
		b    api.Binding
		want api.Errno
	}{
		{"no exchange", binding("", api.Direct, "k", "a"), api.ErrName},
		{"no queue", binding("x", api.Direct, "k", ""), api.ErrName},
		{"nothing", api.Binding{}, api.ErrName},
		{"an exchange that is too long", binding(longer, api.Direct, "k", "a"), api.ErrName},
		{"a queue that is too long", binding("x", api.Direct, "k", longer), api.ErrName},
		{"an exchange of two words", binding("x.y", api.Direct, "k", "a"), api.ErrName},
		{"a name ahead of all", binding("*", 7, "..", "a"), api.ErrName},
		{"no kind", binding("x", 0, "k", "a"), api.ErrKind},
		{"a kind that none is", binding("x", 4, "k", "a"), api.ErrKind},
		{"a kind below 0", binding("x", -1, "k", "a"), api.ErrKind},
		{"a kind far away", binding("x", math.MinInt, "k", "a"), api.ErrKind},
		{"a kind of which a byte is right", binding("x", 257, "k", "a"), api.ErrKind},
		{"a kind ahead of the pattern", binding("x", 4, "..", "c"), api.ErrKind},
		{"a direct pattern", binding("x", api.Direct, "*", "a"), api.ErrPattern},
		{"a fanout's pattern", binding("f", api.Fanout, "k", "a"), api.ErrPattern},
		{"a topic's pattern", binding("t", api.Topic, "k..l", "a"), api.ErrPattern},
		{"a pattern that is far too long", binding("t", api.Topic, strings.Repeat("#.", 100000), "a"), api.ErrPattern},
		{"a pattern ahead of the queue", binding("x", api.Direct, "#", "c"), api.ErrPattern},
		{"a queue that isn't", binding("x", api.Direct, "k", "c"), api.ErrNone},
		{"a queue ahead of another kind", binding("x", api.Topic, "k", "c"), api.ErrNone},
		{"another kind", binding("x", api.Topic, "k", "a"), api.ErrKind},
		{"another kind, fanout", binding("t", api.Fanout, "", "b"), api.ErrKind},
		{"another kind ahead of what is too long", binding("x", api.Topic, long, "a"), api.ErrKind},
		{"too long", binding("t", api.Topic, long, "a"), api.ErrLong},
		{"too long, of a new exchange", binding("n", api.Direct, long, "a"), api.ErrLong},
		{"there", binding("x", api.Direct, "k", "a"), api.ErrThere},
		{"there, of a topic", binding("t", api.Topic, "k", "a"), api.ErrThere},
	}
	for what, w := range writers(t, there...) {
		for _, x := range wrong {
			is(t, what+": "+x.what, registry.Bind(w, x.b), x.want)
		}
		held(t, what+" has what it had", w, there...)
	}
}

// The longest pattern that has a key, and the next one.
func TestBindOfLongKeys(t *testing.T) {
	longest := strings.Repeat("n", api.MaxName)
	queues := declared(longest)
	w := registry.New(queues...)
	key := strings.Repeat("w", 32) + "." + strings.Repeat("w", 32) + "." + strings.Repeat("w", 32) + "." + strings.Repeat("w", 32) + "." + strings.Repeat("w", 32)
	b := binding(longest, api.Direct, key+".www", longest)
	is(t, "its key", len(bindKey(b)), api.MaxKey-1)
	is(t, "bound", registry.Bind(w, b), api.OK)
	b.Key += "w"
	is(t, "bound", registry.Bind(w, b), api.OK)
	held(t, "there", w, append(queues, bindPair(binding(longest, api.Direct, key+".www", longest)), bindPair(b))...)
	is(t, "there", registry.Bind(w, b), api.ErrThere)
	long := b
	long.Key += "w"
	is(t, "too long", registry.Bind(w, long), api.ErrLong)
	is(t, "not there", registry.Unbind(w, long), api.ErrNone)
	is(t, "unbound", registry.Unbind(w, b), api.OK)
}

func TestUnbindErrors(t *testing.T) {
	there := append(declared("a"), bindPair(binding("x", api.Direct, "k", "a")), bindPair(binding("", -1, "..", "")), bindPair(binding("y", 9, "k", "c")))
	for what, w := range writers(t, there...) {
		t.Run(what, func(t *testing.T) {
			for _, b := range []api.Binding{
				{}, binding("x", api.Topic, "k", "a"), binding("x", api.Direct, "K", "a"), binding("x", api.Direct, "k", "A"), binding("X", api.Direct, "k", "a"), binding("x", api.Direct, "", "a"),
				binding("x", 257, "k", "a"), binding("x", -1, "k", "a"), binding("x", api.Direct, strings.Repeat("k", 300), "a"), binding(strings.Repeat("x", 100000), api.Direct, "k", "a"),
			} {
				is(t, "not there", registry.Unbind(w, b), api.ErrNone)
			}
			held(t, "as it was", w, there...)
			is(t, "one that nobody bound", registry.Unbind(w, binding("", -1, "..", "")), api.OK)
			is(t, "one of a queue that isn't", registry.Unbind(w, binding("y", 9, "k", "c")), api.OK)
			held(t, "gone", w, there[:2]...)
		})
	}
}

func TestBindings(t *testing.T) {
	want := []api.Binding{
		binding("x", 0, "z", "z"), binding("x", 1, "", "b"), binding("x", 1, "k", "a"), binding("x", 1, "k", "b"), binding("x", 1, "k.l", "a"), binding("x", 2, "", "a"), binding("x", 256, "", ""), binding("x", math.MaxInt, "", "a"), binding("x", math.MinInt, "", "a"), binding("x", -1, "a", "a"),
	}
	other := []api.Binding{binding("", 1, "k", "a"), binding("xx", 1, "k", "a"), binding("x\x00", 1, "k", "a"), binding("w", 1, "k", "x"), binding("y", 1, "x", "x")}
	l := []api.Pair{queuePair(api.Queue{Name: "x"}), counterPair("x", 7), {Key: laid("a", "x")}, {Key: laid("bb", "x")}, {Key: laid("m", "x", 7)}, {Key: ""}, {Key: "\xff"}}
	for _, b := range slices.Concat(want, other) {
		l = append(l, bindPair(b))
	}
	for what, w := range writers(t, l...) {
		t.Run(what, func(t *testing.T) {
			row := registry.Bindings(w, "x")
			for range 2 {
				alike(t, "in their keys' order", all(t, row), want)
			}
			for _, b := range other {
				alike(t, "of another one", all(t, registry.Bindings(w, b.Exchange)), []api.Binding{b})
			}
			for _, exchange := range []string{"a", "b", "X", "x.x", "\xff", strings.Repeat("x", 300), strings.Repeat("\x00", 200)} {
				is(t, "none", len(all(t, registry.Bindings(w, exchange))), 0)
			}
			for most := range want {
				n := 0
				for range registry.Bindings(w, "x") {
					n++
					if n > most {
						break
					}
				}
				is(t, "left", n, most+1)
			}
			is(t, "unbound", registry.Unbind(w, want[0]), api.OK)
			alike(t, "what is there then", all(t, row), want[1:])
		})
	}
}

// routed wants a key to lead to these queues, to none with OK.
func routed(t *testing.T, r registry.Reader, exchange, key string, want ...string) {
	t.Helper()
	l, e := registry.Route(r, exchange, key)
	is(t, exchange+" and "+key, e, api.OK)
	alike(t, exchange+" and "+key, l, want)
}

func TestRoute(t *testing.T) {
	l := declared("a", "b", "c")
	for _, b := range []api.Binding{
		binding("d", 1, "k", "b"), binding("d", 1, "k", "a"), binding("d", 1, "", "c"), binding("d", 1, "k.l", "c"),
		binding("f", 2, "", "c"), binding("f", 2, "", "a"),
		binding("t", 3, "a.#", "b"), binding("t", 3, "#.b", "b"), binding("t", 3, "a.*", "a"), binding("t", 3, "*", "c"), binding("t", 3, "#.b", "a"),
		binding("m", 1, "k", "b"), binding("m", 2, "", "a"), binding("m", 3, "*", "b"), binding("m", 4, "k", "c"), // of all kinds, which nobody bound
		binding("g", 1, "k", "gone"),
	} {
		l = append(l, bindPair(b))
	}
	for what, w := range writers(t, l...) {
		t.Run(what, func(t *testing.T) {
			routed(t, w, "", "a", "a")
			routed(t, w, "", "c", "c")
			routed(t, w, "d", "k", "a", "b")
			routed(t, w, "d", "", "c")
			routed(t, w, "d", "k.l", "c")
			routed(t, w, "d", "l")
			routed(t, w, "f", "", "a", "c")
			routed(t, w, "f", "whatever.it.is", "a", "c")
			routed(t, w, "t", "a", "b", "c")
			routed(t, w, "t", "a.b", "a", "b")
			routed(t, w, "t", "a.b.c", "b")
			routed(t, w, "t", "b", "a", "b", "c")
			routed(t, w, "t", "")
			routed(t, w, "t", "c.d")
			routed(t, w, "m", "k", "a", "b")
			routed(t, w, "m", "k.k", "a")
			routed(t, w, "g", "k", "gone")
			held(t, "as it was", w, l...)
		})
	}
}

func TestRouteErrors(t *testing.T) {
	longer := strings.Repeat("n", api.MaxName+1)
	l := append(declared("a", "x"), bindPair(binding("f", 2, "", "a")), bindPair(binding("a.b", 2, "", "a")))
	wrong := []struct {
		exchange, key string
		want          api.Errno
	}{
		{"", "b", api.ErrNone}, {"", "", api.ErrNone}, {"", "a.b", api.ErrNone}, {"", "*", api.ErrNone}, {"", "..", api.ErrNone}, {"", longer, api.ErrNone}, {"", strings.Repeat("n", 100000), api.ErrNone},
		{"a.b", "k", api.ErrName}, {"*", "k", api.ErrName}, {" ", "k", api.ErrName}, {longer, "k", api.ErrName}, {"a.b", "..", api.ErrName},
		{"f", "..", api.ErrForm}, {"f", "*", api.ErrForm}, {"f", "#", api.ErrForm}, {"f", "a b", api.ErrForm}, {"f", "a.", api.ErrForm}, {"f", strings.Repeat("k.", 8) + "k", api.ErrForm}, {"x", "..", api.ErrForm},
		{"x", "k", api.ErrNone}, {"a", "a", api.ErrNone}, {"F", "k", api.ErrNone}, {"x", "", api.ErrNone},
	}
	for what, w := range writers(t, l...) {
		for _, x := range wrong {
			got, e := registry.Route(w, x.exchange, x.key)
			is(t, what+": "+x.exchange+" and "+x.key, e, x.want)
			is(t, "none", len(got), 0)
		}
		held(t, what+" has what it had", w, l...)
	}
}

// No two answers share a list.
func TestRouteAnswersNewLists(t *testing.T) {
	w := registry.New(append(declared("a", "b"), bindPair(binding("f", 2, "", "a")), bindPair(binding("f", 2, "", "b")))...)
	for _, x := range [][2]string{{"f", "k"}, {"", "a"}} {
		one, _ := registry.Route(w, x[0], x[1])
		two, _ := registry.Route(w, x[0], x[1])
		want := slices.Clone(two)
		one[0] = "changed"
		_ = append(one[:len(one)-1], "spare")
		alike(t, "the other", two, want)
		routed(t, w, x[0], x[1], want...)
	}
}
