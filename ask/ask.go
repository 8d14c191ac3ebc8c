// Package ask asks whoever has pairs, and goes through rows. What panics, or isn't there, counts as what can't be used: the error is ErrArg, for no call of ours may panic.
package ask

import (
	"iter"

	"taproot/api"
)

// Getter tells values.
type Getter interface {
	Get(key string) (string, bool, api.Errno)
}

// Ranger tells pairs.
type Ranger interface {
	Range(from, to string) iter.Seq2[api.Pair, api.Errno]
}

// Putter takes pairs.
type Putter interface {
	Put(key, value string) api.Errno
}

// Cutter gives pairs up.
type Cutter interface {
	Cut(key string) (bool, api.Errno)
}

// Get: a value; nothing beside an error.
func Get(of Getter, key string) (value string, there bool, e api.Errno) {
	defer func() {
		if recover() != nil {
			value, there, e = "", false, api.ErrArg
		}
	}()
	value, there, e = of.Get(key)
	if e != api.OK || !there {
		return "", false, e
	}
	return value, true, api.OK
}

// Put: a pair.
func Put(to Putter, key, value string) (e api.Errno) {
	defer func() {
		if recover() != nil {
			e = api.ErrArg
		}
	}()
	return to.Put(key, value)
}

// Cut: without a key; nothing beside an error.
func Cut(of Cutter, key string) (there bool, e api.Errno) {
	defer func() {
		if recover() != nil {
			there, e = false, api.ErrArg
		}
	}()
	there, e = of.Cut(key)
	return there && e == api.OK, e
}

// Range: pairs, up to the first error, beside which there is none.
func Range(of Ranger, from, to string) iter.Seq2[api.Pair, api.Errno] {
	return Row(func(yield func(api.Pair, api.Errno) bool) { of.Range(from, to)(yield) })
}

// Row: what a row gives, up to the first error, beside which there is nothing. One that isn't there is empty.
func Row[T any](r iter.Seq2[T, api.Errno]) iter.Seq2[T, api.Errno] {
	return func(yield func(T, api.Errno) bool) {
		if r == nil {
			return
		}
		var none T
		away, over := false, false // is whoever goes through the row at it, and have they done with it?
		give := func(x T, e api.Errno) bool {
			away = true
			over = !yield(x, e) || e != api.OK
			away = false
			return !over
		}
		defer func() {
			// A panic of whoever goes through the row is theirs.
			if !away && recover() != nil && !over {
				give(none, api.ErrArg)
			}
		}()
		for x, e := range r {
			if e != api.OK {
				x = none
			}
			if !give(x, e) {
				return
			}
		}
	}
}

// Thing: what stands under a key, if something does; nothing beside an error.
func Thing[T any](of Getter, key string, read func(value string) (T, api.Errno)) (T, bool, api.Errno) {
	var none T
	value, there, e := Get(of, key)
	if e != api.OK || !there {
		return none, false, e
	}
	x, e := read(value)
	if e != api.OK {
		return none, false, e
	}
	return x, true, api.OK
}

// Things: what the pairs within bounds are, up to the first error, beside which there is nothing.
func Things[T any](of Ranger, from, to string, read func(api.Pair) (T, api.Errno)) iter.Seq2[T, api.Errno] {
	return func(yield func(T, api.Errno) bool) {
		for p, e := range Range(of, from, to) {
			var x, none T
			if e == api.OK {
				x, e = read(p)
			}
			if e != api.OK {
				x = none
			}
			if !yield(x, e) || e != api.OK {
				return
			}
		}
	}
}
