package diff_test

import (
	"encoding/binary"
	"fmt"
	"iter"
	"maps"
	"slices"
	"testing"

	"taproot/api"
	"taproot/diff"
	"taproot/disk"
	"taproot/registry"
	"taproot/store"
)

// brief is a thing as text, if that isn't long.
func brief(x any) string {
	s := fmt.Sprintf("%#v", x)
	return s[:min(len(s), 400)]
}

func is[T comparable](t *testing.T, what string, got, want T) {
	t.Helper()
	if got != want {
		t.Errorf("%s: %s, wanted %s", what, brief(got), brief(want))
	}
}

// alike wants two lists to have the same things.
func alike[T comparable](t *testing.T, what string, got, want []T) {
	t.Helper()
	if !slices.Equal(got, want) {
		t.Errorf("%s: %s, wanted %s", what, brief(got), brief(want))
	}
}

// The changes that there are: a key comes, is another one, or goes.
func comes(key, now string) diff.Change { return diff.Change{Key: key, Now: now, Has: true} }

func turns(key, was, now string) diff.Change {
	return diff.Change{Key: key, Was: was, Now: now, Had: true, Has: true}
}

func goes(key, was string) diff.Change { return diff.Change{Key: key, Was: was, Had: true} }

// some are changes that are right, of each sort, with keys and texts of any bytes.
func some() []diff.Change {
	return []diff.Change{
		comes("", ""), turns("\x00", "", "\x00"), goes("a", "\xff\n"), comes("aa", "hi"), turns("b", "was", ""), turns("c", "x", "y"), goes("d", ""), comes("\xff\xfe", "\xff"), goes("\xff\xff", "last"),
	}
}

// pairs are those of keys and values, by turns.
func pairs(words ...string) []api.Pair {
	var l []api.Pair
	for i := 0; i+1 < len(words); i += 2 {
		l = append(l, api.Pair{Key: words[i], Value: words[i+1]})
	}
	return l
}

// before and behind are the pairs that changes want, and those that they leave.
func before(l []diff.Change) []api.Pair {
	var m []api.Pair
	for _, c := range l {
		if c.Had {
			m = append(m, api.Pair{Key: c.Key, Value: c.Was})
		}
	}
	return m
}

func behind(l []diff.Change) []api.Pair {
	var m []api.Pair
	for _, c := range l {
		if c.Has {
			m = append(m, api.Pair{Key: c.Key, Value: c.Now})
		}
	}
	return m
}

// all wants a row without an error, and answers what it gives.
func all[T any](t *testing.T, r iter.Seq2[T, api.Errno]) []T {
	t.Helper()
	var l []T
	for x, e := range r {
		is(t, "a row", e, api.OK)
		l = append(l, x)
	}
	return l
}

// ended wants a row to give these changes, and then an error beside a zero one.
func ended(t *testing.T, what string, r iter.Seq2[diff.Change, api.Errno], want []diff.Change, e api.Errno) {
	t.Helper()
	var l []diff.Change
	last := api.OK
	for c, e := range r {
		is(t, what+": the error is the last thing", last, api.OK)
		l, last = append(l, c), e
	}
	is(t, what+": the error", last, e)
	alike(t, what, l, append(slices.Clone(want), diff.Change{}))
}

// held wants a reader to have just these pairs.
func held(t *testing.T, what string, r registry.Reader, want ...api.Pair) {
	t.Helper()
	m := map[string]api.Pair{}
	for _, p := range want {
		m[p.Key] = p
	}
	var l []api.Pair
	for _, key := range slices.Sorted(maps.Keys(m)) {
		l = append(l, m[key])
	}
	alike(t, what, all(t, r.Range("", "")), l)
}

// opened is a transaction on a new disk.
func opened(t *testing.T) (*store.Store, registry.Writer) {
	t.Helper()
	d, e := disk.New(400)
	is(t, "a disk", e, api.OK)
	s, e := store.Open(d)
	is(t, "a store", e, api.OK)
	x, e := s.Begin()
	is(t, "a transaction", e, api.OK)
	return s, x
}

// writers are a shelf, and a transaction on a disk, that have these pairs.
func writers(t *testing.T, l ...api.Pair) map[string]registry.Writer {
	t.Helper()
	_, x := opened(t)
	for _, p := range l {
		is(t, "put", x.Put(p.Key, p.Value), api.OK)
	}
	return map[string]registry.Writer{"a shelf": registry.New(l...), "a transaction": x}
}

// wrote are bytes laid by hand: of texts they and how long they are, of numbers four bytes (int) or one (byte).
func wrote(parts ...any) string {
	var b []byte
	for _, p := range parts {
		switch p := p.(type) {
		case int:
			b = binary.BigEndian.AppendUint32(b, uint32(p))
		case byte:
			b = append(b, p)
		case string:
			b = append(binary.BigEndian.AppendUint32(b, uint32(len(p))), p...)
		}
	}
	return string(b)
}

// failing is a writer of which one step fails: then it tells the error beside what it has, and must not be asked any more.
type failing struct {
	*registry.Shelf
	t    *testing.T
	left int // steps ahead of that
	err  api.Errno
	gone bool
	done []string // what was put and cut
}

// step is the error of the next one.
func (f *failing) step() api.Errno {
	if f.gone {
		f.t.Errorf("asked behind an error")
	}
	f.left--
	if f.left >= 0 {
		return api.OK
	}
	f.gone = true
	return f.err
}

func (f *failing) Get(key string) (string, bool, api.Errno) {
	value, there, _ := f.Shelf.Get(key)
	return value, there, f.step()
}

func (f *failing) Range(from, to string) iter.Seq2[api.Pair, api.Errno] {
	return func(yield func(api.Pair, api.Errno) bool) {
		for p := range f.Shelf.Range(from, to) {
			e := f.step()
			if !yield(p, e) || e != api.OK {
				return
			}
		}
		if e := f.step(); e != api.OK { // behind the last pair, too
			yield(api.Pair{Key: "a"}, e)
		}
	}
}

func (f *failing) Put(key, value string) api.Errno {
	if e := f.step(); e != api.OK {
		return e
	}
	f.done = append(f.done, "put "+key)
	return f.Shelf.Put(key, value)
}

func (f *failing) Cut(key string) (bool, api.Errno) {
	if e := f.step(); e != api.OK {
		return true, e
	}
	f.done = append(f.done, "cut "+key)
	return f.Shelf.Cut(key)
}

// panicking is a writer that does nothing else.
type panicking struct{ registry.Writer }

func (panicking) Get(string) (string, bool, api.Errno)                { panic("get") }
func (panicking) Range(string, string) iter.Seq2[api.Pair, api.Errno] { panic("range") }
func (panicking) Put(string, string) api.Errno                        { panic("put") }
func (panicking) Cut(string) (bool, api.Errno)                        { panic("cut") }
