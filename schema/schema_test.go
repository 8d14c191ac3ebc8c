package schema_test

import (
	"math"
	"math/rand/v2"
	"slices"
	"strconv"
	"strings"
	"testing"

	"taproot/api"
	"taproot/order"
	"taproot/schema"
)

func TestKeys(t *testing.T) {
	is(t, "the example", key(t)(schema.Queue("a")), "\x02\x71\x00\x00\x02\x61\x00\x00")
	is(t, "a queue's", key(t)(schema.Queue("abc")), "\x02q\x00\x00\x02abc\x00\x00")
	is(t, "of no name", key(t)(schema.Queue("")), "\x02q\x00\x00\x02\x00\x00")
	is(t, "a byte 0", key(t)(schema.Queue("a\x00b")), "\x02q\x00\x00\x02a\x00\xffb\x00\x00")
	is(t, "a message's", key(t)(schema.Message("a", 0x0102030405060708)), "\x02m\x00\x00\x02a\x00\x00\x01\x01\x02\x03\x04\x05\x06\x07\x08")
	is(t, "a term's", key(t)(schema.Term(258, "a", 3)), "\x02e\x00\x00\x01\x00\x00\x00\x00\x00\x00\x01\x02\x02a\x00\x00\x01\x00\x00\x00\x00\x00\x00\x00\x03")
	b := api.Binding{Exchange: "x", Kind: api.Topic, Key: "k.#", Queue: "a"}
	is(t, "a binding's", key(t)(schema.Bind(b)), "\x02b\x00\x00\x02x\x00\x00\x01\x00\x00\x00\x00\x00\x00\x00\x03\x02k.#\x00\x00\x02a\x00\x00")
	b.Kind = -1
	is(t, "a kind below 0", key(t)(schema.Bind(b)), "\x02b\x00\x00\x02x\x00\x00\x01\xff\xff\xff\xff\xff\xff\xff\xff\x02k.#\x00\x00\x02a\x00\x00")
	b.Kind = math.MinInt
	is(t, "the least kind", key(t)(schema.Bind(b)), laid("b", "x", uint64(1<<63), "k.#", "a"))
	is(t, "no binding's", key(t)(schema.Bind(api.Binding{})), laid("b", "", uint64(0), "", ""))
	is(t, "a counter's", key(t)(schema.Counter("id")), "\x02c\x00\x00\x02id\x00\x00")
	for _, n := range numbers() {
		is(t, "a message's", key(t)(schema.Message("a\x00", n)), laid("m", "a\x00", n))
		is(t, "a term's", key(t)(schema.Term(n, "a", 5)), laid("e", n, "a", uint64(5)))
		is(t, "a term's", key(t)(schema.Term(5, "a", n)), laid("e", uint64(5), "a", n))
	}
}

func TestKeysThatAreTooLong(t *testing.T) {
	calls := map[string]struct {
		most int // bytes of a text that still go
		call func(s string) (string, api.Errno)
	}{
		"Queue":             {248, schema.Queue},
		"Message":           {239, func(s string) (string, api.Errno) { return schema.Message(s, 1) }},
		"Term":              {230, func(s string) (string, api.Errno) { return schema.Term(1, s, 1) }},
		"Bind: exchange":    {233, func(s string) (string, api.Errno) { return schema.Bind(api.Binding{Exchange: s}) }},
		"Bind: key":         {233, func(s string) (string, api.Errno) { return schema.Bind(api.Binding{Key: s}) }},
		"Bind: queue":       {233, func(s string) (string, api.Errno) { return schema.Bind(api.Binding{Queue: s}) }},
		"Counter":           {248, schema.Counter},
		"Bind: all of them": {231, func(s string) (string, api.Errno) { return schema.Bind(api.Binding{Exchange: "x", Key: s, Queue: "q"}) }},
	}
	for name, c := range calls {
		k, e := c.call(strings.Repeat("n", c.most))
		is(t, name+": the longest", len(k), api.MaxKey)
		is(t, name+": OK", e, api.OK)
		long := []string{strings.Repeat("n", c.most+1), strings.Repeat("\x00", c.most/2+1), strings.Repeat("n", 100000)}
		for _, s := range long {
			k, e = c.call(s)
			is(t, name+": beside an error", k, "")
			is(t, name+": too long", e, api.ErrLong)
		}
	}
}

func TestParse(t *testing.T) {
	for _, x := range things() {
		k := key(t)(made(x))
		got, e := schema.Parse(k)
		is(t, "as it was made", got, x)
		is(t, "OK", e, api.OK)
		is(t, "the parts", k, key(t)(order.Key(row(x)...)))
	}
}

func TestParseNoKeys(t *testing.T) {
	n := uint64(7)
	for _, k := range []string{
		"", "a", "q", "\x02", "\x02q\x00\x00", "\x02q\x00\x00\x02a\x00", "\x02q\x00\x00\x02a\x00\x01\x00\x00", "\x03q\x00\x00",
		laid("q"), laid("m"), laid("e"), laid("b"), laid("c"), laid(n), laid(n, "a"), laid("", "a"),
		laid("x", "a"), laid("Q", "a"), laid("qq", "a"), laid("q\x00", "a"), laid("\x00q", "a"), laid("k", "a", n),
		laid("q", n), laid("q", "a", "a"), laid("q", "a", n), laid("q", "a", n, "a"),
		laid("m", "a"), laid("m", n), laid("m", "a", "a"), laid("m", n, n), laid("m", n, "a"), laid("m", "a", n, n), laid("m", "a", n, "a"),
		laid("e", n), laid("e", n, "a"), laid("e", "a", n), laid("e", "a", "a", n), laid("e", n, n, n), laid("e", n, "a", "a"), laid("e", n, "a", n, n),
		laid("b", "a", n), laid("b", "a", n, "a"), laid("b", n, n, "a", "a"), laid("b", "a", "a", "a", "a"), laid("b", "a", n, n, "a"), laid("b", "a", n, "a", n), laid("b", "a", n, "a", "a", "a"), laid("b", "a", n, "a", "a", n),
		laid("c", n), laid("c", "a", "a"), laid("c", "a", n), laid("c", "a", n, "a", "a"),
		laid("q", strings.Repeat("n", 249)), laid("c", strings.Repeat("\x00", 200)),
	} {
		got, e := schema.Parse(k)
		is(t, "beside an error", got, schema.Thing{})
		is(t, strconv.Quote(k), e, api.ErrKey)
	}
}

// What is parsed would be made so, whatever the bytes are: here of keys of which a byte or more is another one, or gone, or there twice.
func TestParseTurnedKeys(t *testing.T) {
	chance := rand.New(rand.NewPCG(18, 1))
	all := things()
	parsed := 0
	for range 40000 {
		k := []byte(key(t)(made(all[chance.IntN(len(all))])))
		at := chance.IntN(len(k))
		switch chance.IntN(4) {
		case 0:
			k[at] = byte(chance.IntN(256))
		case 1:
			k[at] = "\x00\x01\x02\xffqmebc"[chance.IntN(9)]
		case 2:
			k = slices.Delete(k, at, at+1)
		case 3:
			k = slices.Insert(k, at, k[at])
		}
		x, e := schema.Parse(string(k))
		if e != api.OK {
			is(t, "the error", e, api.ErrKey)
			is(t, "beside an error", x, schema.Thing{})
			continue
		}
		parsed++
		is(t, "would be made so", key(t)(made(x)), string(k))
	}
	if parsed < 1000 {
		t.Errorf("only %d were keys", parsed)
	}
}

func TestOrderOfKeys(t *testing.T) {
	queue, times, ids := "", "", ""
	for _, n := range numbers() {
		k := key(t)(schema.Message("a", n))
		is(t, "messages stand in the order of their numbers", queue < k, true)
		queue = k
		k = key(t)(schema.Term(n, names()[n%7], 1<<63-n/2))
		is(t, "terms stand in the order of their times", times < k, true)
		times = k
		k = key(t)(schema.Term(5, "a", n))
		is(t, "terms of a time and a queue stand in the order of their numbers", ids < k, true)
		ids = k
	}
}

func TestUnder(t *testing.T) {
	from, to := schema.Under("m", order.Str("a"))
	is(t, "from", from, "\x02m\x00\x00\x02a\x00\x00")
	is(t, "to", to, "\x02m\x00\x00\x02a\x00\x01")
	from, to = schema.Under("q")
	is(t, "from", from, "\x02q\x00\x00")
	is(t, "to", to, "\x02q\x00\x01")
	from, to = schema.Under("e", order.Num(255))
	is(t, "from", from, laid("e", uint64(255)))
	is(t, "a byte 255 at the end is gone", to, "\x02e\x00\x00\x01\x00\x00\x00\x00\x00\x00\x01")
	from, to = schema.Under("e", order.Num(math.MaxUint64))
	is(t, "from", from, laid("e", uint64(math.MaxUint64)))
	is(t, "all bytes 255 are gone", to, "\x02e\x00\x00\x02")
	from, to = schema.Under("", order.Num(7), order.Str("a"))
	is(t, "a sort that none has", from, laid("", uint64(7), "a"))
	is(t, "its end", to, "\x02\x00\x00\x01\x00\x00\x00\x00\x00\x00\x00\x07\x02a\x00\x01")
}

func TestUnderWhatIsTooLong(t *testing.T) {
	from, to := schema.Under("q", order.Str(strings.Repeat("n", 248)))
	is(t, "the longest", len(from), api.MaxKey)
	is(t, "its end", to, from[:254]+"\x01")
	for _, l := range [][]order.Part{
		{order.Str(strings.Repeat("n", 249))}, {order.Str(strings.Repeat("\x00", 125))}, make([]order.Part, 28), make([]order.Part, 100000),
	} {
		from, to = schema.Under("q", l...)
		is(t, "no such key", from, "")
		is(t, "no such key", to, "")
	}
	from, to = schema.Under(strings.Repeat("q", 253))
	is(t, "no such sort", from, "")
	is(t, "no such sort", to, "")
}

// Under's bounds hold just those keys whose rows begin so.
func TestUnderHoldsWhatBeginsSo(t *testing.T) {
	all := things()
	prefixes := [][]order.Part{{order.Str("q")}, {order.Str("")}, {order.Str("x")}}
	for i := 0; i < len(all); i += 5 {
		r := row(all[i])
		for n := 1; n <= len(r); n++ {
			prefixes = append(prefixes, r[:n])
		}
	}
	keys := make([]string, len(all))
	for i, x := range all {
		keys[i] = key(t)(made(x))
	}
	for _, p := range prefixes {
		from, to := schema.Under(p[0].S, p[1:]...)
		for i, x := range all {
			r := row(x)
			begins := len(r) >= len(p) && slices.Equal(r[:len(p)], p)
			if held := from <= keys[i] && keys[i] < to; held != begins {
				t.Fatalf("%+v under %+v: %v", x, p, held)
			}
		}
	}
}

func TestUnderLeavesItsParts(t *testing.T) {
	room := []order.Part{order.Str("a"), order.Num(7), order.Str("spare"), order.Str("more")}
	was := slices.Clone(room)
	schema.Under("m", room[:2]...)
	schema.Under("m", room[:0]...)
	is(t, "unchanged, spare room included", slices.Equal(room, was), true)
}
