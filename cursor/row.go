package cursor

import (
	"iter"

	"taproot/api"
)

// given is a row that was handed in: of no row an empty one.
func given[T any](r iter.Seq2[T, api.Errno]) iter.Seq2[T, api.Errno] {
	if r == nil {
		return func(func(T, api.Errno) bool) {}
	}
	return r
}

// Collect: a row's cells. A row that panics counts as one that can't be used, for no call of ours may panic.
func Collect(r Row, most int) (l []api.Cell, e api.Errno) {
	defer func() {
		if recover() != nil {
			l, e = nil, api.ErrArg
		}
	}()
	for c, e := range given(r) {
		switch {
		case e != api.OK:
			return nil, e
		case len(l) >= most:
			return nil, api.ErrMany
		}
		l = append(l, c)
	}
	return l, api.OK
}

// Map: what a row's cells are.
func Map[T any](r Row, f func(api.Cell) (T, api.Errno)) iter.Seq2[T, api.Errno] {
	return func(yield func(T, api.Errno) bool) {
		for c, e := range given(r) {
			x, e := answer(c, e, f)
			if !yield(x, e) || e != api.OK {
				return
			}
		}
	}
}

// answer is what f answers of a cell, or the zero one and the error.
func answer[T any](c api.Cell, e api.Errno, f func(api.Cell) (T, api.Errno)) (T, api.Errno) {
	var x, none T
	if e == api.OK {
		x, e = guarded(c, f)
	}
	if e != api.OK {
		return none, e
	}
	return x, api.OK
}

// guarded is what f answers. An f that panics, or isn't there, counts as one that can't be used.
func guarded[T any](c api.Cell, f func(api.Cell) (T, api.Errno)) (x T, e api.Errno) {
	defer func() {
		if recover() != nil {
			e = api.ErrArg
		}
	}()
	return f(c)
}

// Take: the first so many.
func Take[T any](r iter.Seq2[T, api.Errno], most int) iter.Seq2[T, api.Errno] {
	return func(yield func(T, api.Errno) bool) {
		left := most
		if left < 1 {
			return
		}
		for x, e := range given(r) {
			left--
			if !yield(x, e) || left == 0 {
				return
			}
		}
	}
}
