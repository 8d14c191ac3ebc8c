package broker

import (
	"taproot/api"
	"taproot/command"
	"taproot/lease"
	"taproot/message"
	"taproot/registry"
)

// few: may so many be told at once?
func few(n uint64) bool { return 1 <= n && n <= api.MaxDeliver }

// brief: may messages be lent so long?
func brief(ticks uint64) bool { return 1 <= ticks && ticks <= api.MaxTime }

// publish: a message comes into each queue to which the exchange leads.
func (s *State) publish(c command.Command, r *Reply) api.Errno {
	if c.Time > api.MaxTime {
		return api.ErrTime
	}
	queues, e := registry.Route(s.W, c.Exchange, c.Key)
	if e != api.OK {
		return e
	}
	for _, queue := range queues {
		q, e := registry.Find(s.W, queue)
		if e != api.OK {
			return e
		}
		if e := s.come(q, c, r); e != api.OK {
			return e
		}
	}
	return api.OK
}

// come: a message comes into a queue, if there is room.
func (s *State) come(q api.Queue, c command.Command, r *Reply) api.Errno {
	room, e := s.room(q, r)
	if e != api.OK || !room {
		return e
	}
	id, e := registry.Next(s.W, counter)
	if e != api.OK {
		return e
	}
	r.N++
	r.IDs = append(r.IDs, id)
	return message.Add(s.W, api.Message{Queue: q.Name, ID: id, Expiry: s.expiry(c.Time, q.TTL), Body: c.Body})
}

// deliver: a queue's first ready messages are lent.
func (s *State) deliver(c command.Command, r *Reply) api.Errno {
	q, e := registry.Find(s.W, c.Queue.Name)
	switch {
	case e != api.OK:
		return e
	case !few(c.N) || !brief(c.Time):
		return api.ErrArg
	}
	for m, e := range s.ready(q.Name) {
		if e == api.OK {
			e = s.lend(m, q, c.Time, r)
		}
		if e != api.OK || uint64(len(r.List)) == c.N {
			return e
		}
	}
	return api.OK
}

// lend: a message is lent, or it was so too often and dies.
func (s *State) lend(m api.Message, q api.Queue, ticks uint64, r *Reply) api.Errno {
	if q.Tries != 0 && m.Tries >= q.Tries {
		return s.die(m, q.Dead, r)
	}
	m.Tries = max(m.Tries, m.Tries+1) // doesn't go round
	s.Leases = s.Leases.Lend(key(m), s.after(ticks))
	r.List = append(r.List, m)
	return message.Save(s.W, m)
}

// held is the message that a command's token speaks of.
func (s *State) held(c command.Command) (api.Message, api.Errno) {
	m, e := message.Get(s.W, c.Queue.Name, c.ID)
	if e == api.OK && (!s.lent(m) || c.Token != uint64(m.Tries)) {
		e = api.ErrLease
	}
	return m, e
}

// ack: a message is done.
func (s *State) ack(c command.Command) api.Errno {
	m, e := s.held(c)
	if e != api.OK {
		return e
	}
	s.Leases = s.Leases.Free(key(m))
	_, e = message.Take(s.W, m.Queue, m.ID)
	return e
}

// nack: a message is ready again, or dies.
func (s *State) nack(c command.Command, r *Reply) api.Errno {
	m, e := s.held(c)
	if e != api.OK {
		return e
	}
	if c.Dead {
		return s.bury(m, r)
	}
	s.Leases = s.Leases.Free(key(m))
	return api.OK
}

// bury: a message dies as its queue tells.
func (s *State) bury(m api.Message, r *Reply) api.Errno {
	q, _, e := s.find(m.Queue)
	if e != api.OK {
		return e
	}
	return s.die(m, q.Dead, r)
}

// extend: a message is lent longer.
func (s *State) extend(c command.Command) api.Errno {
	m, e := s.held(c)
	switch {
	case e != api.OK:
		return e
	case !brief(c.Time):
		return api.ErrArg
	}
	s.Leases = s.Leases.Lend(key(m), s.after(c.Time))
	return api.OK
}

// purge: a queue's messages are gone.
func (s *State) purge(c command.Command, r *Reply) api.Errno {
	queue := c.Queue.Name
	if _, e := registry.Find(s.W, queue); e != api.OK {
		return e
	}
	n, e := message.Clear(s.W, queue)
	if e != api.OK {
		return e
	}
	s.Leases = s.Leases.Keep(func(k lease.Key) bool { return k.Queue != queue })
	r.N = uint64(n)
	return api.OK
}

// tick: time goes on.
func (s *State) tick(c command.Command, r *Reply) api.Errno {
	if s.after(c.Time) > api.MaxTime {
		return api.ErrTime
	}
	s.Clock += c.Time
	back, leases := s.Leases.Due(s.Clock)
	s.Leases = leases
	r.N = uint64(len(back))
	due, e := s.due()
	if e != api.OK {
		return e
	}
	for _, k := range due {
		if e := s.expire(k, r); e != api.OK {
			return e
		}
	}
	return api.OK
}

// due are the messages that expire now. All are known ahead of the first that dies, for a row isn't gone through while it changes.
func (s *State) due() ([]lease.Key, api.Errno) {
	var l []lease.Key
	for m, e := range message.Due(s.W, s.Clock) {
		if e != api.OK {
			return nil, e
		}
		if !s.lent(m) {
			l = append(l, key(m))
		}
	}
	return l, api.OK
}

// expire: a message dies, if none that died ahead of it has made it lose its place.
func (s *State) expire(k lease.Key, r *Reply) api.Errno {
	m, e := message.Get(s.W, k.Queue, k.ID)
	switch e {
	case api.OK:
		return s.bury(m, r)
	case api.ErrNone:
		return api.OK
	default:
		return e
	}
}

// stat: how a queue stands.
func (s *State) stat(c command.Command, r *Reply) api.Errno {
	if _, e := registry.Find(s.W, c.Queue.Name); e != api.OK {
		return e
	}
	for m, e := range message.List(s.W, c.Queue.Name, 0) {
		if e != api.OK {
			return e
		}
		r.N++
		if s.lent(m) {
			r.IDs = append(r.IDs, m.ID)
		}
	}
	return api.OK
}

// browse: a look into a queue.
func (s *State) browse(c command.Command, r *Reply) api.Errno {
	_, e := registry.Find(s.W, c.Queue.Name)
	switch {
	case e != api.OK:
		return e
	case !few(c.N):
		return api.ErrArg
	}
	for m, e := range message.List(s.W, c.Queue.Name, c.ID) {
		if e == api.OK {
			r.List = append(r.List, m)
		}
		if e != api.OK || uint64(len(r.List)) == c.N {
			return e
		}
	}
	return api.OK
}
