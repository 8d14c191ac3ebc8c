package message_test

import (
	"encoding/binary"
	"iter"
	"maps"
	"slices"
	"strings"
	"testing"

	"taproot/api"
	"taproot/disk"
	"taproot/registry"
	"taproot/store"
)

func is[T comparable](t *testing.T, what string, got, want T) {
	t.Helper()
	if got != want {
		t.Errorf("%s: %.200v, wanted %.200v", what, got, want)
	}
}

// alike wants two lists to have the same things.
func alike[T comparable](t *testing.T, what string, got, want []T) {
	t.Helper()
	if !slices.Equal(got, want) {
		t.Errorf("%s: %.400v, wanted %.400v", what, got, want)
	}
}

// laid is a key laid by hand, of numbers (uint64) and texts.
func laid(parts ...any) string {
	var b []byte
	for _, p := range parts {
		switch p := p.(type) {
		case uint64:
			b = binary.BigEndian.AppendUint64(append(b, 1), p)
		case string:
			b = append(b, 2)
			b = append(b, strings.ReplaceAll(p, "\x00", "\x00\xff")...)
			b = append(b, 0, 0)
		}
	}
	return string(b)
}

// key is a message's.
func key(queue string, id uint64) string { return laid("m", queue, id) }

// bytes are a message's, laid by hand.
func bytes(m api.Message) string {
	b := binary.BigEndian.AppendUint32([]byte{1}, m.Tries)
	b = binary.BigEndian.AppendUint64(b, m.Expiry)
	b = binary.BigEndian.AppendUint32(b, uint32(len(m.Body)))
	return string(b) + m.Body
}

// alone is the pair of a message, without its term.
func alone(m api.Message) api.Pair { return api.Pair{Key: key(m.Queue, m.ID), Value: bytes(m)} }

// term is that of a time, a queue and a number.
func term(at uint64, queue string, id uint64) api.Pair {
	return api.Pair{Key: laid("e", at, queue, id)}
}

// pairsOf are those of messages, and of their terms.
func pairsOf(l ...api.Message) []api.Pair {
	var pairs []api.Pair
	for _, m := range l {
		pairs = append(pairs, alone(m))
		if m.Expiry != 0 {
			pairs = append(pairs, term(m.Expiry, m.Queue, m.ID))
		}
	}
	return pairs
}

// all wants a row without an error, and answers what it gives.
func all[T any](t *testing.T, r iter.Seq2[T, api.Errno]) []T {
	t.Helper()
	var l []T
	for x, e := range r {
		is(t, "OK", e, api.OK)
		l = append(l, x)
	}
	return l
}

// ended wants a row to give these things, and then an error beside a zero one.
func ended[T comparable](t *testing.T, what string, r iter.Seq2[T, api.Errno], e api.Errno, want ...T) {
	t.Helper()
	var none T
	at := 0
	for x, got := range r {
		switch {
		case at < len(want):
			is(t, what+": OK", got, api.OK)
			is(t, what, x, want[at])
		case at == len(want):
			is(t, what+": the error", got, e)
			is(t, what+": beside it", x, none)
		}
		at++
	}
	is(t, what+": how many, and the error", at, len(want)+1)
}

// held wants a reader to have just these pairs.
func held(t *testing.T, what string, r registry.Reader, want ...api.Pair) {
	t.Helper()
	m := map[string]api.Pair{}
	for _, p := range want {
		m[p.Key] = p
	}
	var l []api.Pair
	for _, key := range slices.Sorted(maps.Keys(m)) {
		l = append(l, m[key])
	}
	alike(t, what, all(t, r.Range("", "")), l)
}

// writers are a shelf, and a transaction on a disk, that have these pairs.
func writers(t *testing.T, l ...api.Pair) map[string]registry.Writer {
	t.Helper()
	d, e := disk.New(400)
	is(t, "a disk", e, api.OK)
	s, e := store.Open(d)
	is(t, "a store", e, api.OK)
	x, e := s.Begin()
	is(t, "a transaction", e, api.OK)
	for _, p := range l {
		is(t, "put", x.Put(p.Key, p.Value), api.OK)
	}
	return map[string]registry.Writer{"a shelf": registry.New(l...), "a transaction": x}
}

// others are pairs that stand beside messages, and that no call of ours may change.
func others() []api.Pair {
	return []api.Pair{
		{Key: ""}, {Key: "\xff"}, {Key: "m"}, {Key: laid("mm", "a", uint64(1))}, {Key: laid("l", "a", uint64(1))}, {Key: laid("n", "a", uint64(1))},
		{Key: laid("d", uint64(1), "a", uint64(1))}, {Key: laid("f", uint64(1), "a", uint64(1))}, {Key: laid("ee", uint64(1), "a", uint64(1))},
		{Key: laid("q", "a"), Value: "\x01"}, {Key: laid("c", "id"), Value: "\x01"}, {Key: laid("b", "x", uint64(2), "", "a")},
	}
}

// failing is a writer of which one step fails: then it tells the error beside what it has, and must not be asked any more.
type failing struct {
	*registry.Shelf
	t    *testing.T
	left int // steps ahead of that
	err  api.Errno
	gone bool
}

// step is the error of the next one.
func (f *failing) step() api.Errno {
	if f.gone {
		f.t.Errorf("asked behind an error")
	}
	f.left--
	if f.left >= 0 {
		return api.OK
	}
	f.gone = true
	return f.err
}

func (f *failing) Get(key string) (string, bool, api.Errno) {
	value, there, _ := f.Shelf.Get(key)
	return value, there, f.step()
}

func (f *failing) Range(from, to string) iter.Seq2[api.Pair, api.Errno] {
	return func(yield func(api.Pair, api.Errno) bool) {
		for p := range f.Shelf.Range(from, to) {
			e := f.step()
			if !yield(p, e) || e != api.OK {
				return
			}
		}
		if e := f.step(); e != api.OK { // behind the last pair, too
			yield(api.Pair{Key: "a"}, e)
		}
	}
}

func (f *failing) Put(key, value string) api.Errno {
	if e := f.step(); e != api.OK {
		return e
	}
	return f.Shelf.Put(key, value)
}

func (f *failing) Cut(key string) (bool, api.Errno) {
	if e := f.step(); e != api.OK {
		return true, e
	}
	return f.Shelf.Cut(key)
}
