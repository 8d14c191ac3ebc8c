package script

import (
	"math"

	"taproot/api"
	"taproot/broker"
	"taproot/command"
	"taproot/disk"
	"taproot/session"
)

// Shell is a disk, a broker on it, and commands that wait.
type Shell struct {
	Disk    *disk.Disk
	Broker  *session.Broker
	Waiting []command.Command
}

// Answer is what a line comes to.
type Answer struct {
	Err     api.Errno
	N       int
	Replies []broker.Reply
	List    []api.Message
}

// Start: a shell.
func Start(pages int) (*Shell, api.Errno) {
	d, e := disk.New(pages)
	if e != api.OK {
		return nil, e
	}
	b, e := session.Open(d)
	if e != api.OK {
		return nil, e
	}
	return &Shell{Disk: d, Broker: b}, api.OK
}

// Do: a line.
func (h *Shell) Do(l Line) Answer {
	if h == nil {
		return Answer{Err: api.ErrNil}
	}
	if e := wrong(l); e != api.OK {
		return Answer{Err: e}
	}
	switch l.Kind {
	case Commit:
		return h.commit()
	case Snap:
		n, e := h.Broker.Snap()
		return Answer{Err: e, N: n}
	case Look:
		list, e := h.Broker.Browse(fit(l.N), l.Queue, l.From, fit(l.Most))
		return Answer{Err: e, List: list}
	case Close:
		return Answer{Err: h.Broker.Close(fit(l.N))}
	case Fuse:
		h.Disk.Fuse(fit(l.N))
		return Answer{}
	case Crash:
		return Answer{Err: h.crash()}
	}
	h.Waiting = append(h.waiting(), l.Command)
	return Answer{}
}

// waiting are the commands that wait, without spare room: whoever appends to them gets room of their own, so that no list that was told changes.
func (h *Shell) waiting() []command.Command {
	n := len(h.Waiting)
	return h.Waiting[:n:n]
}

// commit makes a batch of what waits.
func (h *Shell) commit() Answer {
	replies, e := h.Broker.Batch(h.waiting())
	h.Waiting = nil
	return Answer{Err: e, Replies: replies}
}

// crash lets the power go and come again. A broker that can't be opened anew leaves the old one.
func (h *Shell) crash() api.Errno {
	h.Disk.Crash(nil)
	h.Waiting = nil
	b, e := session.Open(h.Disk)
	if e == api.OK {
		h.Broker = b
	}
	return e
}

// fit is the nearest number that an int can be.
func fit(n int64) int { return int(min(max(n, math.MinInt), math.MaxInt)) }
