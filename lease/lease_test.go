package lease_test

import (
	"cmp"
	"math"
	"slices"
	"strings"
	"testing"

	"taproot/lease"
)

func is[T comparable](t *testing.T, what string, got, want T) {
	t.Helper()
	if got != want {
		t.Errorf("%s: %v, wanted %v", what, got, want)
	}
}

// lent is a thing, and till when.
type lent[K comparable] struct {
	k     K
	until uint64
}

// list is all that a table has.
func list[K comparable](x lease.Table[K]) []lent[K] {
	var l []lent[K]
	for k, until := range x.All() {
		l = append(l, lent[K]{k, until})
	}
	return l
}

// has wants a table to have just these, in this order.
func has[K comparable](t *testing.T, what string, x lease.Table[K], want ...lent[K]) {
	t.Helper()
	if got := list(x); !slices.Equal(got, want) {
		t.Errorf("%s: %v, wanted %v", what, got, want)
	}
	is(t, what+": how many", x.Len(), len(want))
	for _, l := range want {
		until, there := x.Until(l.k)
		is(t, what+": there", there, true)
		is(t, what+": till when", until, l.until)
	}
}

// gone wants a table not to have a thing.
func gone[K comparable](t *testing.T, x lease.Table[K], k K) {
	t.Helper()
	until, there := x.Until(k)
	is(t, "not there", there, false)
	is(t, "beside it", until, 0)
}

// words is a table of texts, in the order of their bytes.
func words() lease.Table[string] { return lease.New(strings.Compare) }

func TestLend(t *testing.T) {
	x := words()
	has(t, "nothing", x)
	gone(t, x, "a")
	gone(t, x, "")
	x = x.Lend("b", 5)
	has(t, "one", x, lent[string]{"b", 5})
	gone(t, x, "a")
	x = x.Lend("a", 7).Lend("", 6)
	has(t, "by their times", x, lent[string]{"b", 5}, lent[string]{"", 6}, lent[string]{"a", 7})
	x = x.Lend("b", 7).Lend("c", 7)
	has(t, "longer, and of one time by the function", x, lent[string]{"", 6}, lent[string]{"a", 7}, lent[string]{"b", 7}, lent[string]{"c", 7})
	x = x.Lend("c", 0).Lend("", math.MaxUint64)
	has(t, "shorter, and the ends", x, lent[string]{"c", 0}, lent[string]{"a", 7}, lent[string]{"b", 7}, lent[string]{"", math.MaxUint64})
	x = x.Lend("a", 7)
	has(t, "as it was", x, lent[string]{"c", 0}, lent[string]{"a", 7}, lent[string]{"b", 7}, lent[string]{"", math.MaxUint64})
}

func TestOrderByTheFunction(t *testing.T) {
	x := lease.New(func(a, b string) int { return strings.Compare(b, a) })
	for _, k := range []string{"b", "d", "a", "c"} {
		x = x.Lend(k, 5)
	}
	x = x.Lend("e", 4).Lend("f", 6)
	has(t, "turned round", x, lent[string]{"e", 4}, lent[string]{"d", 5}, lent[string]{"c", 5}, lent[string]{"b", 5}, lent[string]{"a", 5}, lent[string]{"f", 6})
	y := lease.New(func(a, b int) int { return (a - b) * 1000 })
	for _, k := range []int{3, -1, 2, 0} {
		y = y.Lend(k, 1)
	}
	has(t, "by any number", y, lent[int]{-1, 1}, lent[int]{0, 1}, lent[int]{2, 1}, lent[int]{3, 1})
}

func TestFree(t *testing.T) {
	x := words().Lend("a", 5).Lend("b", 5).Lend("c", 6)
	has(t, "without what isn't there", x.Free("d"), list(x)...)
	has(t, "without the first", x.Free("a"), lent[string]{"b", 5}, lent[string]{"c", 6})
	has(t, "without the second", x.Free("b"), lent[string]{"a", 5}, lent[string]{"c", 6})
	has(t, "without the last", x.Free("c"), lent[string]{"a", 5}, lent[string]{"b", 5})
	has(t, "without all", x.Free("b").Free("c").Free("a"))
	gone(t, x.Free("b"), "b")
	has(t, "lent again", x.Free("b").Lend("b", 1), lent[string]{"b", 1}, lent[string]{"a", 5}, lent[string]{"c", 6})
	has(t, "nothing without a thing", words().Free("a"))
}

func TestDue(t *testing.T) {
	x := words().Lend("x", 5)
	l, y := x.Due(4)
	is(t, "none is due", len(l), 0)
	has(t, "all are left", y, lent[string]{"x", 5})
	l, y = x.Due(5)
	is(t, "it is due", slices.Equal(l, []string{"x"}), true)
	has(t, "none is left", y)
	x = x.Lend("b", 7).Lend("a", 7).Lend("z", 0).Lend("m", math.MaxUint64)
	for _, d := range []struct {
		now uint64
		due []string
	}{{0, []string{"z"}}, {1, []string{"z"}}, {5, []string{"z", "x"}}, {6, []string{"z", "x"}}, {7, []string{"z", "x", "a", "b"}}, {math.MaxUint64 - 1, []string{"z", "x", "a", "b"}}, {math.MaxUint64, []string{"z", "x", "a", "b", "m"}}} {
		all := list(x)
		l, y := x.Due(d.now)
		is(t, "the due ones, in their order", slices.Equal(l, d.due), true)
		has(t, "the others", y, all[len(d.due):]...)
		for _, k := range d.due {
			gone(t, y, k)
		}
		has(t, "the table stays", x, all...)
		has(t, "the others can be lent on", y.Lend("n", 0), append([]lent[string]{{"n", 0}}, all[len(d.due):]...)...)
	}
	l, y = words().Due(math.MaxUint64)
	is(t, "of nothing none", len(l), 0)
	has(t, "of nothing nothing", y)
}

func TestKeep(t *testing.T) {
	x := words().Lend("a", 5).Lend("b", 4).Lend("c", 5).Lend("d", 9)
	has(t, "some", x.Keep(func(k string) bool { return k == "a" || k == "d" }), lent[string]{"a", 5}, lent[string]{"d", 9})
	has(t, "none", x.Keep(func(string) bool { return false }))
	has(t, "all", x.Keep(func(string) bool { return true }), list(x)...)
	has(t, "without a function all", x.Keep(nil), list(x)...)
	has(t, "what a function panics at as without one", x.Keep(func(k string) bool {
		if k == "c" {
			panic(k)
		}
		return k == "a"
	}), lent[string]{"a", 5}, lent[string]{"c", 5})
	var asked []string
	y := x.Keep(func(k string) bool { asked = append(asked, k); return len(asked)%2 == 0 })
	is(t, "each is asked once, in their order", slices.Equal(asked, []string{"b", "a", "c", "d"}), true)
	has(t, "what was said", y, lent[string]{"a", 5}, lent[string]{"d", 9})
	has(t, "lent on, in their order", y.Lend("b", 5), lent[string]{"a", 5}, lent[string]{"b", 5}, lent[string]{"d", 9})
	has(t, "of nothing nothing", words().Keep(func(string) bool { return true }))
}

func TestAll(t *testing.T) {
	x := words().Lend("b", 2).Lend("a", 1).Lend("c", 3)
	row := x.All()
	for range 2 {
		var got []string
		for k, until := range row {
			got = append(got, k)
			is(t, "till when", until, uint64(len(got)))
		}
		is(t, "in their order", slices.Equal(got, []string{"a", "b", "c"}), true)
	}
	for most := range 3 {
		n := 0
		for range row {
			n++
			if n > most {
				break
			}
		}
		is(t, "left", n, most+1)
	}
	for range words().All() {
		t.Errorf("nothing has a thing")
	}
}

func TestCompare(t *testing.T) {
	l := []lease.Key{{}, {"", 1}, {"", math.MaxUint64}, {"\x00", 0}, {"A", 7}, {"a", 0}, {"a", 1}, {"a", 2}, {"a", 10}, {"a", 1 << 63}, {"a", math.MaxUint64}, {"a\x00", 0}, {"aa", 0}, {"b", 0}, {"\xff", 0}}
	for i, a := range l {
		for j, b := range l {
			is(t, a.Queue+" and "+b.Queue, lease.Compare(a, b), cmp.Compare(i, j))
		}
	}
	keys := lease.Keys()
	has(t, "nothing", keys)
	want := []lent[lease.Key]{{lease.Key{Queue: "z", ID: 9}, 1}}
	for i := range l {
		keys = keys.Lend(l[len(l)-1-i], 2)
		want = append(want, lent[lease.Key]{l[i], 2})
	}
	has(t, "by the queue, then by the number", keys.Lend(lease.Key{Queue: "z", ID: 9}, 1), want...)
}

// What is answered shares nothing with a table.
func TestDueAnswersNewLists(t *testing.T) {
	x := words().Lend("a", 1).Lend("b", 2).Lend("c", 3)
	one, left := x.Due(2)
	two, _ := x.Due(2)
	one[0] = "changed"
	_ = append(one[:1], "spare", "spare")
	is(t, "the other", slices.Equal(two, []string{"a", "b"}), true)
	has(t, "the table", x, lent[string]{"a", 1}, lent[string]{"b", 2}, lent[string]{"c", 3})
	has(t, "what was left", left, lent[string]{"c", 3})
}
