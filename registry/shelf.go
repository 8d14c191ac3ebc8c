package registry

import (
	"iter"

	"taproot/api"
	"taproot/pool"
)

// Shelf is pairs in memory.
type Shelf struct {
	keys  *pool.Sorted[string]
	pairs map[string]api.Pair // by their keys
}

// New: a shelf.
func New(l ...api.Pair) *Shelf {
	keys := make([]string, len(l))
	pairs := map[string]api.Pair{}
	for i, p := range l {
		keys[i] = p.Key
		pairs[p.Key] = p
	}
	return &Shelf{keys: pool.Of(keys...), pairs: pairs}
}

// Get: a value.
func (s *Shelf) Get(key string) (string, bool, api.Errno) {
	if s == nil {
		return "", false, api.OK
	}
	p, there := s.pairs[key]
	return p.Value, there, api.OK
}

// Range: pairs, rising.
func (s *Shelf) Range(from, to string) iter.Seq2[api.Pair, api.Errno] {
	return func(yield func(api.Pair, api.Errno) bool) {
		if s == nil {
			return
		}
		for key := range s.keys.From(from) {
			if to != "" && key >= to || !yield(s.pairs[key], api.OK) {
				return
			}
		}
	}
}

// Put: a pair.
func (s *Shelf) Put(key, value string) api.Errno {
	if len(key) > api.MaxKey || len(value) > api.MaxValue {
		return api.ErrLong
	}
	if s == nil {
		return api.OK
	}
	if s.pairs == nil {
		*s = *New()
	}
	s.keys.Add(key)
	s.pairs[key] = api.Pair{Key: key, Value: value}
	return api.OK
}

// Cut: without a key.
func (s *Shelf) Cut(key string) (bool, api.Errno) {
	if s == nil {
		return false, api.OK
	}
	delete(s.pairs, key)
	return s.keys.Remove(key), api.OK
}
