package dump

import (
	"math"

	"taproot/api"
	"taproot/octet"
	"taproot/record"
)

// most is how many of one sort may be read.
const most = 1 << 16

// Bytes: a dump's.
func (d Dump) Bytes() string {
	return octet.Eight(d.Clock) + octet.Eight(d.Last) +
		octet.Codec[api.Queue]{Put: putQueue}.List(d.Queues) +
		octet.Codec[api.Binding]{Put: putBinding}.List(d.Bindings) +
		octet.Codec[api.Message]{Put: putMessage}.List(d.Messages)
}

// Parse: the dump that bytes are.
func Parse(s string) (Dump, api.Errno) {
	r := octet.Over(s)
	d := Dump{Clock: r.Eight(), Last: r.Eight(), Queues: list(r, getQueue), Bindings: list(r, getBinding), Messages: list(r, getMessage)}
	if e := r.End(); e != api.OK {
		return Dump{}, e
	}
	return d, api.OK
}

// list is how many stand next, and they. Room is made only for things that were read: the number may be a lie.
func list[T any](r *octet.Reader, get func(*octet.Reader) T) []T {
	n := r.Four()
	if n > most {
		r.Fail(api.ErrMany)
	}
	var l []T
	for range n {
		x := get(r)
		if r.Err() != api.OK {
			return nil
		}
		l = append(l, x)
	}
	return l
}

// text is the one that stands next.
func text(r *octet.Reader) string { return r.Text(api.MaxValue) }

// read is what stands in the text that is next.
func read[T any](r *octet.Reader, c octet.Codec[T]) T {
	x, e := c.Read(text(r))
	// A text that couldn't be read has its own error, which stays.
	r.Fail(e)
	return x
}

// putQueue is a queue's bytes.
func putQueue(q api.Queue) string {
	return octet.Text(q.Name) + octet.Text(record.Queues(q.Name).Bytes(q))
}

// getQueue is the one that stands next.
func getQueue(r *octet.Reader) api.Queue { return read(r, record.Queues(text(r))) }

// putBinding is a binding's bytes.
func putBinding(b api.Binding) string {
	return octet.Text(b.Exchange) + octet.Eight(uint64(b.Kind)) + octet.Text(b.Key) + octet.Text(b.Queue)
}

// getBinding is the one that stands next.
func getBinding(r *octet.Reader) api.Binding {
	return api.Binding{Exchange: text(r), Kind: kind(r), Key: text(r), Queue: text(r)}
}

// kind is the one that stands next: one that fits an int, however narrow that is.
func kind(r *octet.Reader) int {
	n := r.Eight()
	if n > math.MaxInt32 {
		r.Fail(api.ErrForm)
	}
	return int(n)
}

// putMessage is a message's bytes.
func putMessage(m api.Message) string {
	return octet.Text(m.Queue) + octet.Eight(m.ID) + octet.Text(record.Messages(m.Queue, m.ID).Bytes(m))
}

// getMessage is the one that stands next.
func getMessage(r *octet.Reader) api.Message {
	return read(r, record.Messages(text(r), r.Eight()))
}
