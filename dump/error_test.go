package dump_test

import (
	"iter"
	"strings"
	"testing"

	"taproot/api"
	"taproot/disk"
	"taproot/dump"
	"taproot/pager"
	"taproot/registry"
	"taproot/store"
	"taproot/txn"
)

// failed wants Of of a reader to be an error, beside which there is nothing.
func failed(t *testing.T, what string, r registry.Reader, want api.Errno) {
	t.Helper()
	d, e := dump.Of(r, 7)
	is(t, what+": Of", e, want)
	same(t, what+": beside an error", d, dump.Dump{})
}

// The first error of a reader or a writer, at whichever step, is the answer, and nothing is asked behind it.
func TestFirstError(t *testing.T) {
	for _, err := range []api.Errno{api.ErrSum, api.ErrNone, api.ErrThere, api.ErrNil} {
		for left := 0; ; left++ {
			r := &failing{Shelf: registry.New(pairsOf(some())...), t: t, left: left, err: err}
			if d, e := dump.Of(r, 7); e == api.OK {
				same(t, "a reader that didn't fail", d, some())
				// The counter; the queues, the bindings, and of each queue the messages, each with an end.
				is(t, "its steps", left, 1+5+8+(2+3+2+2))
				break
			}
			is(t, "it failed", r.gone, true)
			failed(t, "a reader", &failing{Shelf: r.Shelf, t: t, left: left, err: err}, err)
		}
		for left := 0; ; left++ {
			w := &failing{Shelf: registry.New(), t: t, left: left, err: err}
			e := some().Load(w)
			if !w.gone {
				is(t, "a writer that didn't fail", e, api.OK)
				is(t, "its steps, and more", left > 1+4+7+5+2, true)
				break
			}
			is(t, "a writer", e, err)
		}
	}
}

// What was loaded ahead of an error can be loaded again, and no number is given twice.
func TestBrokenOff(t *testing.T) {
	for left := 0; ; left++ {
		w := &failing{Shelf: registry.New(), t: t, left: left, err: api.ErrFull}
		e := some().Load(w)
		if e == api.OK {
			is(t, "it didn't fail", w.gone, false)
			break
		}
		is(t, "broken off", e, api.ErrFull)
		d, e := dump.Of(w.Shelf, 7)
		is(t, "what there is", e, api.OK)
		if len(d.Messages) > 0 {
			is(t, "its last number", d.Last, some().Last)
		}
		is(t, "loaded", some().Load(w.Shelf), api.OK)
		held(t, "all of it", w.Shelf, pairsOf(some())...)
	}
}

// What a transaction has ended by, a view without a disk, and a page that isn't whole are told.
func TestErrorsOfTransactions(t *testing.T) {
	d, _ := disk.New(60)
	s, _ := store.Open(d)
	x, _ := s.Begin()
	is(t, "loaded", some().Load(x), api.OK)
	is(t, "committed", s.Commit(7), api.OK)
	failed(t, "ended", x, api.ErrClosed)
	is(t, "ended", some().Load(x), api.ErrClosed)
	is(t, "nothing is put", dump.Dump{}.Load(x), api.OK)
	is(t, "what isn't right is told ahead", dump.Dump{Clock: 1 << 50}.Load(x), api.ErrForm)
	failed(t, "no transaction", (*txn.Txn)(nil), api.ErrNil)
	is(t, "no transaction", some().Load((*txn.Txn)(nil)), api.ErrNil)
	failed(t, "no view", (*txn.View)(nil), api.ErrNil)
	failed(t, "no disk", txn.Look(nil, txn.Base{}), api.ErrNil)
	told(t, "what was committed", s.Now(), some())
	torn := s.Base()
	is(t, "a page of zeros", d.Write(torn.Root.Data, api.Page{}), api.OK)
	failed(t, "a page that isn't whole", txn.Look(pager.New(d), torn), api.ErrSum)
}

// A disk that is too small is full.
func TestLoadWithoutPages(t *testing.T) {
	d, _ := disk.New(8)
	s, _ := store.Open(d)
	x, _ := s.Begin()
	is(t, "full", some().Load(x), api.ErrFull)
	is(t, "given up", s.Abort(), api.OK)
	told(t, "nothing", s.Now(), dump.Dump{})
}

// A broken pair is layer 19's error, or layer 18's of its key; of several the one that is met first.
func TestBrokenPairs(t *testing.T) {
	q, m := queueBytes(api.Queue{}), messageBytes(api.Message{})
	counter := func(value string) api.Pair { return api.Pair{Key: laid("c", "id"), Value: value} }
	queue := func(value string) api.Pair { return api.Pair{Key: laid("q", "aa"), Value: value} }
	bind := func(value string) api.Pair {
		return api.Pair{Key: laid("b", "t", uint64(3), "b", "a"), Value: value}
	}
	letter := func(value string) api.Pair { return api.Pair{Key: laid("m", "a", uint64(3)), Value: value} }
	for what, x := range map[string]struct {
		want   api.Errno
		broken []api.Pair
	}{
		"a short counter":             {api.ErrShort, []api.Pair{counter("\x01\x00")}},
		"an empty counter":            {api.ErrShort, []api.Pair{counter("")}},
		"a long counter":              {api.ErrForm, []api.Pair{counter(counterBytes(7) + "\x00")}},
		"another counter":             {api.ErrForm, []api.Pair{counter("\x02" + counterBytes(7)[1:])}},
		"a short queue":               {api.ErrShort, []api.Pair{queue(q[:len(q)-1])}},
		"a long queue":                {api.ErrForm, []api.Pair{queue(q + "\x00")}},
		"a queue with a long Dead":    {api.ErrLong, []api.Pair{queue(queueBytes(api.Queue{Dead: strings.Repeat("d", api.MaxName+1)}))}},
		"a queue's key":               {api.ErrKey, []api.Pair{{Key: laid("q", "a", "b"), Value: q}}},
		"a binding's value":           {api.ErrForm, []api.Pair{bind("\x01")}},
		"a binding's key":             {api.ErrKey, []api.Pair{{Key: laid("b", "t", uint64(3), "b")}}},
		"a binding's key and value":   {api.ErrKey, []api.Pair{{Key: laid("b", "t", uint64(3), "b"), Value: "hi"}}},
		"a binding's key alone":       {api.ErrKey, []api.Pair{{Key: laid("b")}}},
		"a short message":             {api.ErrShort, []api.Pair{letter(m[:len(m)-1])}},
		"a long message":              {api.ErrForm, []api.Pair{letter(m + "\x00")}},
		"a message's key":             {api.ErrKey, []api.Pair{{Key: laid("m", "a", "b"), Value: m}}},
		"a counter ahead of queues":   {api.ErrForm, []api.Pair{counter("hi"), queue(""), letter("")}},
		"a queue ahead of bindings":   {api.ErrShort, []api.Pair{queue(""), bind("hi"), letter("hi")}},
		"a binding ahead of messages": {api.ErrForm, []api.Pair{bind("hi"), letter("")}},
	} {
		for name, w := range writers(t, append(pairsOf(some()), x.broken...)...) {
			failed(t, what+": "+name, w, x.want)
		}
	}
	// One of another queue ahead isn't met first, where a queue's own isn't right.
	other := []api.Pair{letter("hi"), {Key: laid("m", "A-1", uint64(10)), Value: ""}}
	failed(t, "two broken messages", registry.New(append(pairsOf(some()), other...)...), api.ErrShort)
}

// A message that is there, and broken, isn't written over.
func TestLoadOverABrokenMessage(t *testing.T) {
	w := registry.New(api.Pair{Key: laid("m", "a", uint64(2)), Value: "hi"})
	is(t, "Load", some().Load(w), api.ErrForm)
	value, there, _ := w.Get(laid("m", "a", uint64(2)))
	is(t, "as it was", there && value == "hi", true)
}

// panicking is a writer that does nothing else.
type panicking struct{ registry.Writer }

func (panicking) Get(string) (string, bool, api.Errno)                { panic("get") }
func (panicking) Range(string, string) iter.Seq2[api.Pair, api.Errno] { panic("range") }
func (panicking) Put(string, string) api.Errno                        { panic("put") }
func (panicking) Cut(string) (bool, api.Errno)                        { panic("cut") }

// A writer that isn't there, or panics, is an error.
func TestNoWriter(t *testing.T) {
	var none *failing
	for _, w := range []registry.Writer{nil, none, panicking{}} {
		failed(t, "no reader", w, api.ErrArg)
		is(t, "no writer", some().Load(w), api.ErrArg)
		is(t, "nothing is put", dump.Dump{}.Load(w), api.OK)
	}
	is(t, "no shelf", some().Load((*registry.Shelf)(nil)), api.OK)
}
