package cursor_test

import (
	"iter"
	"math"
	"slices"
	"strings"
	"testing"

	"taproot/api"
	"taproot/cursor"
)

// counted is a row of cells of the keys that these words are; a word that begins with ! is that many's error, and the row goes on, as no row should. It tells how many were asked for.
func counted(words string, asked *int) cursor.Row {
	return func(yield func(api.Cell, api.Errno) bool) {
		for _, w := range strings.Fields(words) {
			*asked++
			c, e := api.Cell{Key: w}, api.OK
			if w[0] == '!' {
				c, e = api.Cell{}, api.Errno(len(w))
			}
			if !yield(c, e) {
				return
			}
		}
	}
}

func TestCollect(t *testing.T) {
	for _, w := range []struct {
		words string
		most  int
		cells string
		e     api.Errno
		asked int
	}{
		{"", 0, "", api.OK, 0},
		{"", -1, "", api.OK, 0},
		{"a b c", 3, "a b c", api.OK, 3},
		{"a b c", 4, "a b c", api.OK, 3},
		{"a b c", math.MaxInt, "a b c", api.OK, 3},
		{"a b c", 2, "", api.ErrMany, 3},
		{"a b c", 1, "", api.ErrMany, 2},
		{"a b c", 0, "", api.ErrMany, 1},
		{"a b c", -1, "", api.ErrMany, 1},
		{"a b c", math.MinInt, "", api.ErrMany, 1},
		{"a b !!!", 9, "", api.ErrShort, 3},
		{"a b !!!", 2, "", api.ErrShort, 3},
		{"a b !!!", 1, "", api.ErrMany, 2},
		{"!!!", 0, "", api.ErrShort, 1},
		{"!!! a !!!!", 5, "", api.ErrShort, 1},
	} {
		asked := 0
		l, e := cursor.Collect(counted(w.words, &asked), w.most)
		var keys []string
		for _, c := range l {
			keys = append(keys, c.Key)
		}
		is(t, "Collect of "+w.words, strings.Join(keys, " "), w.cells)
		is(t, "its error", e, w.e)
		is(t, "no more is asked for", asked, w.asked)
	}
	tr := small()
	l, e := cursor.Collect(cursor.Range(tr, "c", "m"), 4)
	is(t, "of a tree", e == api.OK && len(l) == 4 && l[3] == api.Cell{Key: "i", Value: "of i"}, true)
	other, _ := cursor.Collect(cursor.Range(tr, "c", "m"), 4)
	l[0].Key = "changed"
	is(t, "each has its own memory", other[0].Key, "c")
}

// lengths answers how long a key is, and an error beside a number of one of three bytes.
func lengths(c api.Cell) (int, api.Errno) {
	if len(c.Key) == 3 {
		return 99, api.ErrKey
	}
	return len(c.Key), api.OK
}

// numbers is a row of numbers as a list: an error is a hundred times itself, and what is beside it.
func numbers(r iter.Seq2[int, api.Errno]) []int {
	var l []int
	for n, e := range r {
		l = append(l, n+100*int(e))
	}
	return l
}

func TestMap(t *testing.T) {
	for _, w := range []struct {
		words string
		want  []int
		asked int
	}{
		{"", nil, 0},
		{"a bb cccc", []int{1, 2, 4}, 3},
		{"a bb ccc dddd", []int{1, 2, 2000}, 3},
		{"a !! b", []int{1, 200}, 2},
		{"!! b", []int{200}, 1},
	} {
		asked := 0
		row := cursor.Map(counted(w.words, &asked), lengths)
		is(t, "nothing is asked for ahead", asked, 0)
		for range 2 {
			asked = 0
			if got := numbers(row); !slices.Equal(got, w.want) {
				t.Errorf("Map of %s: %v, wanted %v", w.words, got, w.want)
			}
			is(t, "no more is asked for", asked, w.asked)
		}
	}
	asked := 0
	for n := range cursor.Map(counted("a bb cccc", &asked), lengths) {
		if n == 2 {
			break
		}
	}
	is(t, "left", asked, 2)
}

func TestTake(t *testing.T) {
	for _, w := range []struct {
		words string
		most  int
		want  string
		asked int
	}{
		{"a b c", math.MinInt, "", 0},
		{"a b c", -1, "", 0},
		{"a b c", 0, "", 0},
		{"a b c", 1, "a", 1},
		{"a b c", 2, "a b", 2},
		{"a b c", 3, "a b c", 3},
		{"a b c", 4, "a b c", 3},
		{"a b c", math.MaxInt, "a b c", 3},
		{"", 3, "", 0},
		{"a !!!", 2, "a error 3", 2},
		{"a !!!", 1, "a", 1},
		{"!!!", 3, "error 3", 1},
	} {
		asked := 0
		row := cursor.Take(counted(w.words, &asked), w.most)
		is(t, "nothing is asked for ahead", asked, 0)
		for range 2 {
			asked = 0
			is(t, "Take of "+w.words, told(row), w.want)
			is(t, "no more is asked for", asked, w.asked)
		}
	}
	asked := 0
	for range cursor.Take(counted("a b c", &asked), 3) {
		break
	}
	is(t, "left", asked, 1)
	tr := small()
	is(t, "of a tree", told(cursor.Take(cursor.All(tr), 3)), "a c e")
	is(t, "no page more is loaded", len(tr.In.loads), 3)
	got := numbers(cursor.Take(cursor.Map(counted("a bb cccc", &asked), lengths), 2))
	is(t, "of another sort", slices.Equal(got, []int{1, 2}), true)
}

func TestRowsThatAreNone(t *testing.T) {
	l, e := cursor.Collect(nil, 3)
	is(t, "Collect of nil", len(l) == 0 && e == api.OK, true)
	is(t, "Take of nil", told(cursor.Take[api.Cell](nil, 3)), "")
	is(t, "Map of nil", len(numbers(cursor.Map(nil, lengths))), 0)
	asked := 0
	is(t, "Map by nil", slices.Equal(numbers(cursor.Map[int](counted("a b", &asked), nil)), []int{200}), true)
	panics := func(api.Cell) (int, api.Errno) { panic("f") }
	is(t, "Map by what panics", slices.Equal(numbers(cursor.Map(counted("a b", &asked), panics)), []int{200}), true)
	l, e = cursor.Collect(func(yield func(api.Cell, api.Errno) bool) {
		yield(api.Cell{Key: "a"}, api.OK)
		panic("row")
	}, 3)
	is(t, "Collect of what panics", len(l) == 0 && e == api.ErrArg, true)
}
