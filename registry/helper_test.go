package registry_test

import (
	"encoding/binary"
	"iter"
	"maps"
	"slices"
	"strings"
	"testing"

	"taproot/api"
	"taproot/disk"
	"taproot/registry"
	"taproot/store"
)

func is[T comparable](t *testing.T, what string, got, want T) {
	t.Helper()
	if got != want {
		t.Errorf("%s: %.200v, wanted %.200v", what, got, want)
	}
}

// alike wants two lists to have the same things.
func alike[T comparable](t *testing.T, what string, got, want []T) {
	t.Helper()
	if !slices.Equal(got, want) {
		t.Errorf("%s: %.400v, wanted %.400v", what, got, want)
	}
}

// laid is a key laid by hand, of numbers (int) and texts.
func laid(parts ...any) string {
	var b []byte
	for _, p := range parts {
		switch p := p.(type) {
		case int:
			b = binary.BigEndian.AppendUint64(append(b, 1), uint64(p))
		case string:
			b = append(b, 2)
			b = append(b, strings.ReplaceAll(p, "\x00", "\x00\xff")...)
			b = append(b, 0, 0)
		}
	}
	return string(b)
}

// queueKey is a queue's.
func queueKey(name string) string { return laid("q", name) }

// queueBytes are a queue's, laid by hand.
func queueBytes(q api.Queue) string {
	b := binary.BigEndian.AppendUint32([]byte{1}, q.Most)
	b = binary.BigEndian.AppendUint64(b, q.TTL)
	b = binary.BigEndian.AppendUint32(b, q.Tries)
	b = binary.BigEndian.AppendUint32(b, uint32(len(q.Dead)))
	return string(b) + q.Dead
}

// queuePair is a queue's.
func queuePair(q api.Queue) api.Pair { return api.Pair{Key: queueKey(q.Name), Value: queueBytes(q)} }

// bindKey is a binding's.
func bindKey(b api.Binding) string { return laid("b", b.Exchange, b.Kind, b.Key, b.Queue) }

// bindPair is a binding's.
func bindPair(b api.Binding) api.Pair { return api.Pair{Key: bindKey(b)} }

// counterPair is a counter's.
func counterPair(name string, n uint64) api.Pair {
	return api.Pair{Key: laid("c", name), Value: string(binary.BigEndian.AppendUint64([]byte{1}, n))}
}

// binding is one, in the order of what its key tells.
func binding(exchange string, kind int, key, queue string) api.Binding {
	return api.Binding{Exchange: exchange, Kind: kind, Key: key, Queue: queue}
}

// all wants a row without an error, and answers what it gives.
func all[T any](t *testing.T, r iter.Seq2[T, api.Errno]) []T {
	t.Helper()
	var l []T
	for x, e := range r {
		is(t, "OK", e, api.OK)
		l = append(l, x)
	}
	return l
}

// ended wants a row to give so many things, and then an error beside a zero one.
func ended[T comparable](t *testing.T, what string, r iter.Seq2[T, api.Errno], n int, want api.Errno) {
	t.Helper()
	var none, last T
	got, e := -1, api.OK
	for x, f := range r {
		is(t, what+": the error is the last thing", e, api.OK)
		got++
		last, e = x, f
	}
	is(t, what+": the error", e, want)
	is(t, what+": things ahead of it", got, n)
	is(t, what+": beside it", last, none)
}

// pairs are all that a reader has.
func pairs(t *testing.T, r registry.Reader) []api.Pair {
	t.Helper()
	return all(t, r.Range("", ""))
}

// held wants a reader to have just these pairs.
func held(t *testing.T, what string, r registry.Reader, want ...api.Pair) {
	t.Helper()
	m := map[string]api.Pair{}
	for _, p := range want {
		m[p.Key] = p
	}
	var l []api.Pair
	for _, key := range slices.Sorted(maps.Keys(m)) {
		l = append(l, m[key])
	}
	alike(t, what, pairs(t, r), l)
}

// writers are a shelf, and a transaction on a disk, that have these pairs.
func writers(t *testing.T, l ...api.Pair) map[string]registry.Writer {
	t.Helper()
	d, e := disk.New(300)
	is(t, "a disk", e, api.OK)
	s, e := store.Open(d)
	is(t, "a store", e, api.OK)
	x, e := s.Begin()
	is(t, "a transaction", e, api.OK)
	for _, p := range l {
		is(t, "put", x.Put(p.Key, p.Value), api.OK)
	}
	return map[string]registry.Writer{"a shelf": registry.New(l...), "a transaction": x}
}

// failing is a writer of which one step fails: then it tells the error beside what it has, and must not be asked any more.
type failing struct {
	*registry.Shelf
	t    *testing.T
	left int // steps ahead of that
	err  api.Errno
	gone bool
}

// step is the error of the next one.
func (f *failing) step() api.Errno {
	if f.gone {
		f.t.Errorf("asked behind an error")
	}
	f.left--
	if f.left >= 0 {
		return api.OK
	}
	f.gone = true
	return f.err
}

func (f *failing) Get(key string) (string, bool, api.Errno) {
	value, there, _ := f.Shelf.Get(key)
	return value, there, f.step()
}

func (f *failing) Range(from, to string) iter.Seq2[api.Pair, api.Errno] {
	return func(yield func(api.Pair, api.Errno) bool) {
		for p := range f.Shelf.Range(from, to) {
			e := f.step()
			if !yield(p, e) || e != api.OK {
				return
			}
		}
		if e := f.step(); e != api.OK { // behind the last pair, too
			yield(api.Pair{Key: "a"}, e)
		}
	}
}

func (f *failing) Put(key, value string) api.Errno {
	if e := f.step(); e != api.OK {
		return e
	}
	return f.Shelf.Put(key, value)
}

func (f *failing) Cut(key string) (bool, api.Errno) {
	if e := f.step(); e != api.OK {
		return true, e
	}
	return f.Shelf.Cut(key)
}
