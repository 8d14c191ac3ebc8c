package dump_test

import (
	"math/rand/v2"
	"slices"
	"strings"
	"testing"

	"taproot/api"
	"taproot/broker"
	"taproot/command"
	"taproot/disk"
	"taproot/dump"
	"taproot/lease"
	"taproot/registry"
	"taproot/session"
)

// pick is one of some things.
func pick[T any](chance *rand.Rand, l ...T) T { return l[chance.IntN(len(l))] }

// chosen is a command by chance, of a few queues and exchanges.
func chosen(chance *rand.Rand) command.Command {
	queue := api.Queue{Name: pick(chance, "a", "a-", "b", "c", "A")}
	key := pick(chance, "", "a", "a.b", "b.c.a")
	switch kind := chance.IntN(30); {
	case kind < 4:
		queue.Most, queue.TTL, queue.Tries = pick(chance, uint32(0), 0, 1, 3), pick(chance, uint64(0), 0, 6), pick(chance, uint32(0), 1, 2)
		queue.Dead = pick(chance, "", "", "a", "b", "c")
		return command.Command{Kind: command.Declare, Queue: queue}
	case kind < 5:
		return command.Command{Kind: command.Drop, Queue: queue}
	case kind < 8:
		exchange := chance.IntN(3)
		patterns := [][]string{{key}, {""}, {key, "#", "a.*", "*.b.#"}}
		b := binding([]string{"d", "f", "t"}[exchange], exchange+1, pick(chance, patterns[exchange]...), queue.Name)
		return command.Command{Kind: pick(chance, command.Bind, command.Bind, command.Unbind), Binding: b}
	case kind < 19:
		exchange := pick(chance, "", "", "d", "f", "t")
		if exchange == "" {
			key = queue.Name
		}
		return command.Command{Kind: command.Publish, Exchange: exchange, Key: key, Body: strings.Repeat(pick(chance, "x", "\x00", "yz"), chance.IntN(500)), Time: pick(chance, uint64(0), 0, 3, 9)}
	case kind < 23:
		return command.Command{Kind: command.Deliver, Queue: queue, N: 1 + chance.Uint64N(3), Time: 1 + chance.Uint64N(6)}
	case kind < 25:
		return command.Command{Kind: command.Ack, Queue: queue, ID: chance.Uint64N(40), Token: 1}
	case kind < 27:
		return command.Command{Kind: command.Nack, Queue: queue, ID: chance.Uint64N(40), Token: 1, Dead: chance.IntN(2) == 0}
	default:
		return command.Command{Kind: command.Tick, Time: chance.Uint64N(4)}
	}
}

// whole wants a dump of a reader to be right, to tell all pairs, and to be the same behind its bytes, and behind another writer.
func whole(t *testing.T, r registry.Reader, clock uint64) dump.Dump {
	t.Helper()
	d, e := dump.Of(r, clock)
	is(t, "Of", e, api.OK)
	held(t, "all that there is is told", r, pairsOf(d)...)
	is(t, "Right", d.Right(), true)
	bytes := d.Bytes()
	is(t, "Bytes", bytes, bytesOf(d))
	read(t, "Bytes", bytes, d)
	anew := registry.New()
	is(t, "Load", d.Load(anew), api.OK)
	alike(t, "loaded", all(t, anew.Range("", "")), all(t, r.Range("", "")))
	told(t, "told again", anew, d)
	return d
}

// Whatever a broker does by chance is told, right, written and read, and loaded as it was.
func TestBrokersByChance(t *testing.T) {
	for seed := range uint64(20) {
		chance := rand.New(rand.NewPCG(seed, 27))
		w := registry.New()
		s := &broker.State{W: w, Leases: lease.Keys()}
		messages := 0
		for n := range 400 {
			c := chosen(chance)
			// What a refused command has changed is a session's to undo; none of these leaves what isn't right.
			s.Do(c)
			if n%9 == 0 {
				messages += len(whole(t, w, s.Clock).Messages)
			}
		}
		is(t, "there were messages", messages > 50, true)
	}
}

// On a disk, too; and a dump of what was committed is told by a snapshot, whatever follows.
func TestSessionsByChance(t *testing.T) {
	d, _ := disk.New(400)
	b, e := session.Open(d)
	is(t, "Open", e, api.OK)
	chance := rand.New(rand.NewPCG(5, 27))
	done := 0
	for range 300 {
		if _, e := b.Batch([]command.Command{chosen(chance)}); e == api.OK {
			done++
		}
		whole(t, b.Now(), b.Clock())
	}
	is(t, "there were batches", done > 30, true)
	was := whole(t, b.Now(), b.Clock())
	n, e := b.Snap()
	is(t, "Snap", e, api.OK)
	for range 50 {
		b.Batch([]command.Command{chosen(chance)})
	}
	v, e := b.Store().Snapped(n)
	is(t, "Snapped", e, api.OK)
	told(t, "the snapshot", v, was)
}

// rightOne says what the words say, thing by thing, of dumps whose things have small names.
func rightOne(d dump.Dump) bool {
	name := func(s string) bool { return s == "a" || s == "b" || s == "c" }
	queues := map[string]int{}
	for i, q := range d.Queues {
		if !name(q.Name) || q.Dead != "" && !name(q.Dead) || q.Dead == q.Name || q.TTL > api.MaxTime || i > 0 && d.Queues[i-1].Name >= q.Name {
			return false
		}
		queues[q.Name] = i
	}
	for i, b := range d.Bindings {
		_, there := queues[b.Queue]
		patterns := map[int][]string{1: {"", "k"}, 2: {""}, 3: {"", "k", "#"}}
		if !there || !name(b.Exchange) || !slices.Contains(patterns[b.Kind], b.Key) {
			return false
		}
		for _, x := range d.Bindings[:i] {
			if x.Exchange == b.Exchange && x.Kind != b.Kind || bindPair(x).Key >= bindPair(b).Key {
				return false
			}
		}
	}
	for i, m := range d.Messages {
		at, there := queues[m.Queue]
		if !there || m.ID == 0 || m.ID > d.Last {
			return false
		}
		for _, x := range d.Messages[:i] {
			if x.ID == m.ID || queues[x.Queue] > at || queues[x.Queue] == at && x.ID > m.ID {
				return false
			}
		}
	}
	return d.Clock <= api.MaxTime
}

// drawn is a dump by chance, of few things, right now and then.
func drawn(chance *rand.Rand) dump.Dump {
	names := []string{"a", "a", "b", "b", "b", "c", "c", "c", "", "."}
	name := func() string { return names[chance.IntN(8+chance.IntN(3)*chance.IntN(2))] }
	d := dump.Dump{Clock: pick(chance, uint64(0), 5, api.MaxTime, api.MaxTime, api.MaxTime+1), Last: chance.Uint64N(9)}
	for range chance.IntN(3) {
		d.Queues = append(d.Queues, api.Queue{Name: name(), TTL: pick(chance, uint64(0), 0, 0, 0, api.MaxTime, api.MaxTime+1), Dead: pick(chance, "", "", "", "c", "b", name())})
	}
	for range chance.IntN(3) {
		d.Bindings = append(d.Bindings, binding(name(), pick(chance, 1, 2, 3, 3, chance.IntN(6)-1), pick(chance, "", "", "k", "#"), name()))
	}
	for range chance.IntN(4) {
		d.Messages = append(d.Messages, api.Message{Queue: name(), ID: chance.Uint64N(10), Tries: chance.Uint32N(3), Expiry: chance.Uint64N(3)})
	}
	if chance.IntN(3) > 0 {
		slices.SortFunc(d.Queues, func(x, y api.Queue) int { return strings.Compare(x.Name, y.Name) })
		slices.SortFunc(d.Bindings, func(x, y api.Binding) int { return strings.Compare(bindPair(x).Key, bindPair(y).Key) })
		slices.SortFunc(d.Messages, func(x, y api.Message) int { return strings.Compare(messagePair(x).Key, messagePair(y).Key) })
	}
	return d
}

func TestRightByChance(t *testing.T) {
	chance := rand.New(rand.NewPCG(7, 27))
	rights := 0
	for range 60000 {
		d := drawn(chance)
		want := rightOne(d)
		is(t, brief(d), d.Right(), want)
		w := registry.New()
		e := d.Load(w)
		if !want {
			is(t, brief(d)+": Load", e, api.ErrForm)
			held(t, "nothing", w)
			continue
		}
		rights++
		is(t, brief(d)+": Load", e, api.OK)
		held(t, "all of it", w, pairsOf(d)...)
		told(t, "told", w, d)
	}
	is(t, "there were right ones, and others", rights > 600 && rights < 50000, true)
}

// Bytes by chance, most of them turned from right ones, are refused, or would be written so.
func TestBytesByChance(t *testing.T) {
	chance := rand.New(rand.NewPCG(9, 27))
	base := some()
	base.Messages[4].Body = "short"
	seeds := []string{base.Bytes(), dump.Dump{}.Bytes(), drawn(chance).Bytes(), drawn(chance).Bytes()}
	ok := 0
	for range 50000 {
		bytes := []byte(pick(chance, seeds...))
		for range 1 + chance.IntN(2) {
			switch at := chance.IntN(len(bytes)); chance.IntN(4) {
			case 0:
				bytes = slices.Delete(bytes, at, min(at+1+chance.IntN(4), len(bytes)))
			case 1:
				bytes = slices.Insert(bytes, at, byte(chance.Uint32()))
			default:
				bytes[at] = pick(chance, 0, 1, 255, byte(chance.Uint32()))
			}
			if len(bytes) == 0 {
				bytes = []byte{0}
			}
		}
		d, e := dump.Parse(string(bytes))
		if e != api.OK {
			same(t, "beside an error", d, dump.Dump{})
			continue
		}
		ok++
		is(t, "written so", d.Bytes(), string(bytes))
	}
	is(t, "some are read", ok > 500, true)
}
