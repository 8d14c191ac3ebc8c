package store

import (
	"slices"

	"taproot/api"
	"taproot/txn"
)

// snapshot is a base as it was.
type snapshot struct {
	number int
	view   *txn.View
}

// Snap: a snapshot.
func (s *Store) Snap() (int, api.Errno) {
	if e := s.Err(); e != api.OK {
		return 0, e
	}
	if len(s.snaps) >= api.MaxSnaps {
		return 0, api.ErrSnaps
	}
	s.last++
	s.snaps = append(s.snaps, snapshot{number: s.last, view: s.Now()})
	return s.last, api.OK
}

// place is where the snapshot of a number stands.
func (s *Store) place(n int) (int, api.Errno) {
	if e := s.Err(); e != api.OK {
		return 0, e
	}
	at := slices.IndexFunc(s.snaps, func(x snapshot) bool { return x.number == n })
	if at < 0 {
		return 0, api.ErrHandle
	}
	return at, api.OK
}

// Snapped: a snapshot's view. Whoever asks gets one of his own: what he does to it mustn't reach the snapshot.
func (s *Store) Snapped(n int) (*txn.View, api.Errno) {
	at, e := s.place(n)
	if e != api.OK {
		return nil, e
	}
	own := *s.snaps[at].view
	return &own, api.OK
}

// Close: a snapshot is gone.
func (s *Store) Close(n int) api.Errno {
	at, e := s.place(n)
	if e == api.OK {
		s.snaps = slices.Delete(s.snaps, at, at+1)
	}
	return e
}

// Snaps: which there are.
func (s *Store) Snaps() []int {
	if s == nil {
		return nil
	}
	var numbers []int
	for _, x := range s.snaps {
		numbers = append(numbers, x.number)
	}
	return numbers
}
