package schema_test

import (
	"encoding/binary"
	"math"
	"strings"
	"testing"

	"taproot/api"
	"taproot/order"
	"taproot/schema"
)

func is[T comparable](t *testing.T, what string, got, want T) {
	t.Helper()
	if got != want {
		t.Errorf("%s: %+v, wanted %+v", what, got, want)
	}
}

// laid is a key laid by hand, of numbers (uint64) and texts.
func laid(parts ...any) string {
	var b []byte
	for _, p := range parts {
		switch p := p.(type) {
		case uint64:
			b = binary.BigEndian.AppendUint64(append(b, 1), p)
		case string:
			b = append(b, 2)
			b = append(b, strings.ReplaceAll(p, "\x00", "\x00\xff")...)
			b = append(b, 0, 0)
		}
	}
	return string(b)
}

// key wants a call to have answered a key.
func key(t *testing.T) func(string, api.Errno) string {
	return func(k string, e api.Errno) string {
		t.Helper()
		is(t, "a key", e, api.OK)
		return k
	}
}

// made is the key of a thing, by the call of its sort.
func made(x schema.Thing) (string, api.Errno) {
	switch x.Sort {
	case "q":
		return schema.Queue(x.Queue)
	case "m":
		return schema.Message(x.Queue, x.ID)
	case "e":
		return schema.Term(x.At, x.Queue, x.ID)
	case "b":
		return schema.Bind(x.Binding)
	}
	return schema.Counter(x.Name)
}

// names are some of which several begin alike, and some have bytes that keys lay otherwise.
func names() []string {
	return []string{"", "a", "ab", "a\x00", "a\x00b", "\x00", "\x01", "\x02", "b", "q", "m", "\xff", "\xff\xff", "a.b", strings.Repeat("n", api.MaxName)}
}

// numbers are those at the ends of their bytes and bits.
func numbers() []uint64 {
	return []uint64{0, 1, 2, 255, 256, 1<<32 - 1, 1 << 32, api.MaxTime, math.MaxInt64, 1 << 63, math.MaxUint64}
}

// things are of each sort.
func things() []schema.Thing {
	var l []schema.Thing
	for _, s := range names() {
		l = append(l, schema.Thing{Sort: "q", Queue: s}, schema.Thing{Sort: "c", Name: s})
		for _, n := range numbers() {
			l = append(l, schema.Thing{Sort: "m", Queue: s, ID: n}, schema.Thing{Sort: "e", At: n, Queue: s, ID: 7}, schema.Thing{Sort: "e", At: 7, Queue: s, ID: n})
		}
	}
	return append(l, bindings()...)
}

// bindings are such of each kind, and of kinds that aren't.
func bindings() []schema.Thing {
	var l []schema.Thing
	for _, kind := range []int{0, api.Direct, api.Fanout, api.Topic, 4, -1, -2, math.MinInt, math.MaxInt} {
		for _, s := range names() {
			l = append(l,
				schema.Thing{Sort: "b", Binding: api.Binding{Exchange: s, Kind: kind, Key: "k", Queue: "q"}},
				schema.Thing{Sort: "b", Binding: api.Binding{Exchange: "x", Kind: kind, Key: s, Queue: "q"}},
				schema.Thing{Sort: "b", Binding: api.Binding{Exchange: "x", Kind: kind, Key: "k", Queue: s}})
		}
	}
	return l
}

// row is a thing's parts.
func row(x schema.Thing) []order.Part {
	n, s := order.Num, order.Str
	switch x.Sort {
	case "q":
		return []order.Part{s("q"), s(x.Queue)}
	case "m":
		return []order.Part{s("m"), s(x.Queue), n(x.ID)}
	case "e":
		return []order.Part{s("e"), n(x.At), s(x.Queue), n(x.ID)}
	case "b":
		b := x.Binding
		return []order.Part{s("b"), s(b.Exchange), n(uint64(b.Kind)), s(b.Key), s(b.Queue)}
	}
	return []order.Part{s("c"), s(x.Name)}
}
