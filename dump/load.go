package dump

import (
	"taproot/api"
	"taproot/ask"
	"taproot/message"
	"taproot/record"
	"taproot/registry"
	"taproot/schema"
	"taproot/topic"
)

// Right: does it tell what could be?
func (d Dump) Right() bool {
	return d.Clock <= api.MaxTime && d.rightQueues() && d.rightBindings() && d.rightMessages()
}

// rightQueues: could there be such queues?
func (d Dump) rightQueues() bool {
	for _, q := range d.Queues {
		if !topic.Name(q.Name) || q.Dead != "" && !topic.Name(q.Dead) || q.Dead == q.Name || q.TTL > api.MaxTime {
			return false
		}
	}
	return rising(d.Queues, queueKey)
}

// rightBindings: could these queues have such bindings?
func (d Dump) rightBindings() bool {
	queues := d.names()
	var last api.Binding
	for _, b := range d.Bindings {
		_, there := queues[b.Queue]
		if !there || !topic.Name(b.Exchange) || !topic.Right(b.Kind, b.Key) || b.Exchange == last.Exchange && b.Kind != last.Kind {
			return false
		}
		last = b
	}
	// An exchange's stand together, if they rise: so each has the last one's kind.
	return rising(d.Bindings, schema.Bind)
}

// rightMessages: could these queues have such messages?
func (d Dump) rightMessages() bool {
	queues := d.names()
	numbers := map[uint64]struct{}{}
	for _, m := range d.Messages {
		_, there := queues[m.Queue]
		if !there || m.ID < 1 || m.ID > d.Last || len(m.Body) > api.MaxBody {
			return false
		}
		numbers[m.ID] = struct{}{}
	}
	return len(numbers) == len(d.Messages) && rising(d.Messages, messageKey)
}

// names are the queues'.
func (d Dump) names() map[string]struct{} {
	names := map[string]struct{}{}
	for _, q := range d.Queues {
		names[q.Name] = struct{}{}
	}
	return names
}

// rising: has each thing a key, and do the keys rise?
func rising[T any](l []T, key func(T) (string, api.Errno)) bool {
	last := ""
	for _, x := range l {
		k, e := key(x)
		if e != api.OK || k <= last {
			return false
		}
		last = k
	}
	return true
}

// queueKey is a queue's.
func queueKey(q api.Queue) (string, api.Errno) { return schema.Queue(q.Name) }

// messageKey is a message's.
func messageKey(m api.Message) (string, api.Errno) { return schema.Message(m.Queue, m.ID) }

// Load: all that it tells. The counter goes first: where a load is broken off, no number that it put is given again.
func (d Dump) Load(w registry.Writer) api.Errno {
	if !d.Right() {
		return api.ErrForm
	}
	for _, p := range d.pairs() {
		if e := ask.Put(w, p.Key, p.Value); e != api.OK {
			return e
		}
	}
	for _, m := range d.Messages {
		if e := stand(w, m); e != api.OK {
			return e
		}
	}
	return api.OK
}

// pairs are those of all but the messages. What is right has keys.
func (d Dump) pairs() []api.Pair {
	var l []api.Pair
	if d.Last != 0 {
		key, _ := schema.Counter(counter)
		l = append(l, api.Pair{Key: key, Value: record.Counters().Bytes(d.Last)})
	}
	for _, q := range d.Queues {
		key, _ := queueKey(q)
		l = append(l, api.Pair{Key: key, Value: record.Queues(q.Name).Bytes(q)})
	}
	for _, b := range d.Bindings {
		key, _ := schema.Bind(b)
		l = append(l, api.Pair{Key: key})
	}
	return l
}

// stand: a message is there, whatever stood in its place. A term of that one goes with it.
func stand(w registry.Writer, m api.Message) api.Errno {
	key, _ := messageKey(m) // what is right has one
	_, there, e := ask.Get(w, key)
	switch {
	case e != api.OK:
		return e
	case there:
		return message.Save(w, m)
	}
	return message.Add(w, m)
}
