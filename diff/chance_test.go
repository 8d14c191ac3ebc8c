package diff_test

import (
	"maps"
	"math/rand/v2"
	"slices"
	"testing"

	"taproot/api"
	"taproot/command"
	"taproot/diff"
	"taproot/disk"
	"taproot/registry"
	"taproot/session"
)

// dice makes pairs.
type dice struct{ *rand.Rand }

// text is a short one, of few bytes, so that many are alike.
func (d dice) text() string {
	b := make([]byte, d.IntN(3))
	for i := range b {
		b[i] = []byte{0, 'a', 'b', 255}[d.IntN(4)]
	}
	return string(b)
}

// pairs are some, by their keys.
func (d dice) pairs() map[string]string {
	m := map[string]string{}
	for range d.IntN(25) {
		m[d.text()] = d.text()
	}
	return m
}

// listed are a map's pairs.
func listed(m map[string]string) []api.Pair {
	var l []api.Pair
	for key, value := range m {
		l = append(l, api.Pair{Key: key, Value: value})
	}
	return l
}

// differ is what two maps differ in, key by key.
func differ(a, b map[string]string) []diff.Change {
	keys := maps.Clone(a)
	maps.Copy(keys, b)
	var l []diff.Change
	for _, key := range slices.Sorted(maps.Keys(keys)) {
		was, had := a[key]
		now, has := b[key]
		switch {
		case had && has && was != now:
			l = append(l, turns(key, was, now))
		case had && !has:
			l = append(l, goes(key, was))
		case !had:
			l = append(l, comes(key, now))
		}
	}
	return l
}

// Shelves and transactions of all sorts of pairs against maps.
func TestByChance(t *testing.T) {
	d := dice{rand.New(rand.NewPCG(31, 2))}
	for range 150 {
		a, b, c := d.pairs(), d.pairs(), d.pairs()
		l, m := differ(a, b), differ(b, c)
		other := registry.New(listed(b)...)
		for what, w := range writers(t, listed(a)...) {
			alike(t, what+": Of", all(t, diff.Of(w, other)), l)
			is(t, "right", diff.Right(l), true)
			is(t, "Apply", diff.Apply(w, l), api.OK)
			held(t, what+": the other one", w, listed(b)...)
			is(t, "Apply, turned", diff.Apply(w, diff.Turn(l)), api.OK)
			held(t, what+": as it was", w, listed(a)...)
			both := diff.Behind(l, m)
			alike(t, "Behind", both, differ(a, c))
			is(t, "Apply of both", diff.Apply(w, both), api.OK)
			held(t, what+": the third one", w, listed(c)...)
		}
		alike(t, "turned", diff.Turn(l), differ(b, a))
		is(t, "written and read", diff.Bytes(l), bytesOf(l))
		parsed(t, "written and read", diff.Bytes(l), l)
	}
}

// What is lost is just what isn't as it was.
func TestLostByChance(t *testing.T) {
	d := dice{rand.New(rand.NewPCG(31, 3))}
	lost := 0
	for range 1000 {
		a, b := d.pairs(), d.pairs()
		l := differ(a, b)
		key := d.text()
		if len(l) > 0 && d.IntN(2) > 0 {
			key = l[d.IntN(len(l))].Key
		}
		if d.IntN(2) > 0 {
			a[key] = d.text()
		} else {
			delete(a, key)
		}
		want, then := api.OK, maps.Clone(a)
		for _, c := range l {
			value, there := a[c.Key]
			if there != c.Had || value != c.Was {
				want = api.ErrLost
			}
			delete(then, c.Key)
			if c.Has {
				then[c.Key] = c.Now
			}
		}
		if want != api.OK {
			lost++
			then = a
		}
		w := registry.New(listed(a)...)
		is(t, "Apply", diff.Apply(w, l), want)
		held(t, "what there is then", w, listed(then)...)
	}
	is(t, "some are lost, some not", lost > 100 && lost < 900, true)
}

// command is one of some sort.
func (d dice) command() command.Command {
	name := []string{"a", "b", "c"}[d.IntN(3)]
	queue := api.Queue{Name: name}
	switch d.IntN(8) {
	case 0:
		return command.Command{Kind: command.Declare, Queue: api.Queue{Name: name, Most: d.Uint32N(9), TTL: d.Uint64N(9)}}
	case 1:
		return command.Command{Kind: command.Drop, Queue: queue}
	case 2:
		return command.Command{Kind: command.Bind, Binding: api.Binding{Exchange: "x", Kind: api.Topic, Key: []string{"#", "a.*", "b"}[d.IntN(3)], Queue: name}}
	case 3:
		return command.Command{Kind: command.Tick, Time: d.Uint64N(3)}
	case 4:
		return command.Command{Kind: command.Deliver, Queue: queue, N: 1 + d.Uint64N(3), Time: 1 + d.Uint64N(9)}
	case 5:
		return command.Command{Kind: command.Publish, Exchange: "x", Key: []string{"a.b", "b"}[d.IntN(2)], Body: d.text()}
	}
	return command.Command{Kind: command.Publish, Key: name, Body: string(make([]byte, d.IntN(3000))), Time: d.Uint64N(9)}
}

// What a broker's batches change, told against its snapshots, makes of one that follows what it is.
func TestBrokersByChance(t *testing.T) {
	d := dice{rand.New(rand.NewPCG(31, 4))}
	x, e := disk.New(400)
	is(t, "a disk", e, api.OK)
	b, e := session.Open(x)
	is(t, "a broker", e, api.OK)
	_, follows := opened(t)
	var whole []diff.Change
	committed := 0
	first, _ := b.Snap()
	for range 150 {
		n, e := b.Snap()
		is(t, "a snapshot", e, api.OK)
		was, _ := b.Store().Snapped(n)
		if _, e := b.Batch([]command.Command{d.command(), d.command()}); e == api.OK {
			committed++
		}
		l := all(t, diff.Of(was, b.Now()))
		is(t, "right", diff.Right(l), true)
		l, e = diff.Parse(diff.Bytes(l))
		is(t, "read", e, api.OK)
		is(t, "Apply", diff.Apply(follows, l), api.OK)
		is(t, "no difference", len(all(t, diff.Of(b.Now(), follows))), 0)
		whole = diff.Behind(whole, l)
		is(t, "closed", b.Close(n), api.OK)
	}
	is(t, "some were committed", committed > 50, true)
	was, _ := b.Store().Snapped(first)
	alike(t, "all of it", all(t, diff.Of(was, b.Now())), whole)
	is(t, "turned", diff.Apply(follows, diff.Turn(whole)), api.OK)
	held(t, "as it was at first", follows)
}
