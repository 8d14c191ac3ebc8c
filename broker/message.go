package broker

import (
	"iter"
	"math"

	"taproot/api"
	"taproot/lease"
	"taproot/message"
	"taproot/registry"
)

// counter is the one that gives messages their numbers.
const counter = "id"

// key is a message's among the leases.
func key(m api.Message) lease.Key { return lease.Key{Queue: m.Queue, ID: m.ID} }

// lent: is a message? Else it is ready.
func (s *State) lent(m api.Message) bool {
	_, lent := s.Leases.Until(key(m))
	return lent
}

// after is the time so many ticks on. A clock that a caller set may stand near the end of numbers.
func (s *State) after(ticks uint64) uint64 {
	if ticks > math.MaxUint64-s.Clock {
		return math.MaxUint64
	}
	return s.Clock + ticks
}

// expiry is when what has these terms expires: never (0), if it has none.
func (s *State) expiry(terms ...uint64) uint64 {
	var least uint64
	for _, term := range terms {
		if term != 0 && (least == 0 || term < least) {
			least = term
		}
	}
	if least == 0 {
		return 0
	}
	return s.after(least)
}

// ready: a queue's ready messages, in order. Each is sought anew, for what is done with one may change what a row goes through.
func (s *State) ready(queue string) iter.Seq2[api.Message, api.Errno] {
	return func(yield func(api.Message, api.Errno) bool) {
		from := uint64(0)
		for {
			m, there, e := s.next(queue, from)
			if e == api.OK && !there || !yield(m, e) || e != api.OK || m.ID == math.MaxUint64 {
				return
			}
			from = m.ID + 1
		}
	}
}

// next is a queue's first ready message from a number on, if there is one.
func (s *State) next(queue string, from uint64) (api.Message, bool, api.Errno) {
	for m, e := range message.List(s.W, queue, from) {
		if e != api.OK || !s.lent(m) {
			return m, e == api.OK, e
		}
	}
	return api.Message{}, false, api.OK
}

// room: is there any in a queue? Where it is full, a message makes some.
func (s *State) room(q api.Queue, r *Reply) (bool, api.Errno) {
	if q.Most == 0 {
		return true, api.OK
	}
	n, e := message.Count(s.W, q.Name)
	if e != api.OK || uint64(n) < uint64(q.Most) {
		return e == api.OK, e
	}
	m, there, e := s.next(q.Name, 0)
	if e != api.OK || !there {
		return false, e
	}
	return true, s.lose(m, r)
}

// lose: a message is gone.
func (s *State) lose(m api.Message, r *Reply) api.Errno {
	r.Lost = append(r.Lost, m.ID)
	_, e := message.Take(s.W, m.Queue, m.ID)
	return e
}

// die: a message goes to a queue of dead letters, or is gone.
func (s *State) die(m api.Message, dead string, r *Reply) api.Errno {
	s.Leases = s.Leases.Free(key(m))
	q, there, e := s.find(dead)
	if e == api.OK && there {
		there, e = s.room(q, r)
	}
	switch {
	case e != api.OK:
		return e
	case !there:
		return s.lose(m, r)
	}
	r.Dead = append(r.Dead, m.ID)
	return message.Move(s.W, m, api.Message{Queue: q.Name, ID: m.ID, Expiry: s.expiry(q.TTL), Body: m.Body})
}

// find is a queue, if there is one of that name.
func (s *State) find(name string) (api.Queue, bool, api.Errno) {
	if name == "" {
		return api.Queue{}, false, api.OK
	}
	q, e := registry.Find(s.W, name)
	if e == api.ErrNone {
		return api.Queue{}, false, api.OK
	}
	return q, e == api.OK, e
}
