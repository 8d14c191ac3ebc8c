package join

import (
	"iter"

	"taproot/api"
	"taproot/ask"
)

// told is what a row gives once.
type told[T any] struct {
	x T
	e api.Errno
}

// pull asks a row for one thing after the other. The row is gone through beside whoever asks, but never at the same time: one of the two always waits for the other.
type pull[T any] struct {
	wishes chan struct{} // one for each thing; closed when the row is left
	things chan told[T]  // closed when the row has ended
	next   T             // the thing that was asked for, and isn't taken yet
	has    bool          // is there one?
	over   bool          // is there nothing more to be asked for?
	err    api.Errno     // the error that was the last
}

// start makes a row wait for the first wish.
func start[T any](r iter.Seq2[T, api.Errno]) *pull[T] {
	p := &pull[T]{wishes: make(chan struct{}), things: make(chan told[T])}
	go p.run(r)
	return p
}

// run goes through the row, as far as it is wished.
func (p *pull[T]) run(r iter.Seq2[T, api.Errno]) {
	defer close(p.things)
	if !p.wished() {
		return
	}
	for x, e := range ask.Row(r) {
		p.things <- told[T]{x, e}
		if !p.wished() {
			return
		}
	}
}

// wished waits till a thing is wished for. Or is the row left?
func (p *pull[T]) wished() bool {
	_, more := <-p.wishes
	return more
}

// fill asks for the next thing, if the one ahead was taken.
func (p *pull[T]) fill() api.Errno {
	if p.has || p.over {
		return p.err
	}
	p.wishes <- struct{}{}
	next, more := <-p.things
	p.next, p.err = next.x, next.e
	p.has = more && next.e == api.OK
	p.over = !p.has
	return p.err
}

// take is the next thing, which was asked for, and whether there is one.
func (p *pull[T]) take() (T, bool) {
	had := p.has
	p.has = false
	return p.next, had
}

// end leaves the row, and waits till it has ended.
func (p *pull[T]) end() {
	close(p.wishes)
	for range p.things {
	}
}

// pair is two rows that are pulled.
type pair[T any] struct {
	a, b    *pull[T]
	compare func(x, y T) int
}

// both pulls two rows.
func both[T any](a, b iter.Seq2[T, api.Errno], compare func(x, y T) int) pair[T] {
	return pair[T]{start(a), start(b), compare}
}

// end ends both rows.
func (p pair[T]) end() {
	p.a.end()
	p.b.end()
}

// fill asks each row for its next thing, if that is needed.
func (p pair[T]) fill() api.Errno {
	if e := p.a.fill(); e != api.OK {
		return e
	}
	return p.b.fill()
}

// order is which of the two next things is ahead: below 0 a's, above 0 b's. One that isn't there is behind.
func (p pair[T]) order() (int, api.Errno) {
	switch {
	case !p.a.has:
		return 1, api.OK
	case !p.b.has:
		return -1, api.OK
	}
	return called(func() int { return p.compare(p.a.next, p.b.next) })
}

// side takes what the rows have of the next key: nothing, if both have ended.
func (p pair[T]) side() (Side[T], api.Errno) {
	if e := p.fill(); e != api.OK {
		return Side[T]{}, e
	}
	by, e := p.order()
	if e != api.OK {
		return Side[T]{}, e
	}
	var s Side[T]
	if by <= 0 {
		s.Left, s.HasLeft = p.a.take()
	}
	if by >= 0 {
		s.Right, s.HasRight = p.b.take()
	}
	return s, api.OK
}

// sides gives what the rows have, key by key.
func (p pair[T]) sides(yield func(Side[T], api.Errno) bool) {
	for {
		s, e := p.side()
		if e != api.OK {
			yield(Side[T]{}, e)
			return
		}
		if !s.HasLeft && !s.HasRight || !yield(s, api.OK) {
			return
		}
	}
}

// give gives a side's things, a's ahead of b's: those, too, that a has of the key besides. Has the row to go on?
func (p pair[T]) give(s Side[T], yield func(T, api.Errno) bool) bool {
	for x, more := s.Left, s.HasLeft; more; x, more = p.again(s) {
		if !yield(x, api.OK) {
			return false
		}
	}
	return !s.HasRight || yield(s.Right, api.OK)
}

// again takes a's next thing, if a side's right one isn't ahead of it. An error of a's waits: the right one doesn't need what it keeps back.
func (p pair[T]) again(s Side[T]) (T, bool) {
	var none T
	if !s.HasRight || p.a.fill() != api.OK || !p.a.has {
		return none, false
	}
	by, e := called(func() int { return p.compare(p.a.next, s.Right) })
	if e != api.OK || by > 0 {
		return none, false
	}
	return p.a.take()
}
