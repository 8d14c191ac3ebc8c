package join_test

import (
	"cmp"
	"fmt"
	"iter"
	"slices"
	"strconv"
	"strings"
	"testing"

	"taproot/api"
	"taproot/join"
)

func is[T comparable](t *testing.T, what string, got, want T) {
	t.Helper()
	if got != want {
		t.Errorf("%s: %.300s, wanted %.300s", what, fmt.Sprintf("%+v", got), fmt.Sprintf("%+v", want))
	}
}

// alike wants two lists to have the same things.
func alike[T comparable](t *testing.T, what string, got, want []T) {
	t.Helper()
	if !slices.Equal(got, want) {
		t.Errorf("%s: %.300s, wanted %.300s", what, fmt.Sprintf("%+v", got), fmt.Sprintf("%+v", want))
	}
}

// thing has a key, and tells where it is from.
type thing struct {
	key  int
	from string
}

// byKey compares things by their keys alone.
func byKey(x, y thing) int { return cmp.Compare(x.key, y.key) }

// step is what a row gives once.
type step[T any] struct {
	x T
	e api.Errno
}

// steps are all that a row gives.
func steps[T any](r iter.Seq2[T, api.Errno]) []step[T] {
	var l []step[T]
	for x, e := range r {
		l = append(l, step[T]{x, e})
	}
	return l
}

// source is a row that tells how it was gone through. It goes on behind an error, as no row should.
type source struct {
	l            []step[thing]
	asked        int // how often more was asked for
	begun, ended int
}

// of is the source that words tell: each is a thing's key, or as many ! as its error's number. Beside an error there is something, as there shouldn't be.
func of(from, words string) *source {
	s := &source{}
	for i, w := range strings.Fields(words) {
		n, err := strconv.Atoi(w)
		x := step[thing]{x: thing{n, from + strconv.Itoa(i)}}
		if err != nil {
			x = step[thing]{thing{99, from}, api.Errno(len(w))}
		}
		s.l = append(s.l, x)
	}
	return s
}

func (s *source) row(yield func(thing, api.Errno) bool) {
	s.asked = 0
	s.begun++
	defer func() { s.ended++ }()
	for _, x := range s.l {
		s.asked++
		if !yield(x.x, x.e) {
			return
		}
	}
	s.asked++
}

// things are those ahead of the source's first error, and that.
func (s *source) things() ([]thing, api.Errno) {
	var l []thing
	for _, x := range s.l {
		if x.e != api.OK {
			return l, x.e
		}
		l = append(l, x.x)
	}
	return l, api.OK
}

// brief is a row of things as text: keys, and errors.
func brief(r iter.Seq2[thing, api.Errno]) string {
	var l []string
	for x, e := range r {
		switch {
		case e == api.OK:
			l = append(l, strconv.Itoa(x.key)+x.from)
		case x == thing{}:
			l = append(l, e.Error())
		default:
			l = append(l, "something beside "+e.Error())
		}
	}
	return strings.Join(l, " ")
}

// sides is a row of sides as text: of each what is on the left, and on the right, with a / between.
func sides(r iter.Seq2[join.Side[thing], api.Errno]) string {
	var l []string
	for s, e := range r {
		switch {
		case e == api.OK:
			l = append(l, hand(s.Left, s.HasLeft)+"/"+hand(s.Right, s.HasRight))
		case s == join.Side[thing]{}:
			l = append(l, e.Error())
		default:
			l = append(l, "something beside "+e.Error())
		}
	}
	return strings.Join(l, " ")
}

// hand is what one hand has.
func hand(x thing, has bool) string {
	switch {
	case has:
		return strconv.Itoa(x.key) + x.from
	case x == thing{}:
		return ""
	}
	return "something that isn't there"
}

// expected is what Both should give of two lists without errors: each key of the two, once.
func expected(a, b []thing) []join.Side[thing] {
	var l []join.Side[thing]
	for _, x := range a {
		l = append(l, join.Side[thing]{Left: x, HasLeft: true})
	}
	for _, y := range b {
		at := slices.IndexFunc(l, func(s join.Side[thing]) bool { return s.HasLeft && s.Left.key == y.key })
		if at < 0 {
			l = append(l, join.Side[thing]{})
			at = len(l) - 1
		}
		l[at].Right, l[at].HasRight = y, true
	}
	slices.SortFunc(l, func(s, u join.Side[thing]) int {
		return cmp.Compare(max(s.Left.key, s.Right.key), max(u.Left.key, u.Right.key))
	})
	return l
}

// cut is how many of the sides are given, and the error behind them: a row's error comes right behind its last thing, a's ahead of b's.
func cut(l []join.Side[thing], a, b *source) (int, api.Errno) {
	left, right := 0, 0
	for i, s := range l {
		if s.HasLeft {
			left = i + 1
		}
		if s.HasRight {
			right = i + 1
		}
	}
	_, ea := a.things()
	_, eb := b.things()
	switch {
	case ea != api.OK && (eb == api.OK || left <= right):
		return left, ea
	case eb != api.OK:
		return right, eb
	}
	return len(l), api.OK
}
