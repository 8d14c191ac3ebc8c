package order_test

import (
	"math"
	"math/rand/v2"
	"slices"
	"strconv"
	"strings"
	"testing"

	"taproot/api"
	"taproot/order"
)

func is[T comparable](t *testing.T, what string, got, want T) {
	t.Helper()
	if got != want {
		t.Errorf("%s: %v, wanted %v", what, got, want)
	}
}

// keyed is a row's key, which must be one.
func keyed(t *testing.T, l ...order.Part) string {
	t.Helper()
	key, e := order.Key(l...)
	is(t, "Key", e, api.OK)
	return key
}

func TestParts(t *testing.T) {
	is(t, "Num", order.Num(7), order.Part{N: 7})
	is(t, "Str", order.Str("x"), order.Part{Text: true, S: "x"})
}

func TestKey(t *testing.T) {
	is(t, "the example", keyed(t, order.Num(1)), "\x01\x00\x00\x00\x00\x00\x00\x00\x01")
	for _, c := range []struct {
		row  []order.Part
		want string
	}{
		{nil, ""},
		{[]order.Part{order.Num(0)}, "\x01\x00\x00\x00\x00\x00\x00\x00\x00"},
		{[]order.Part{order.Num(0x0102030405060708)}, "\x01\x01\x02\x03\x04\x05\x06\x07\x08"},
		{[]order.Part{order.Num(math.MaxUint64)}, "\x01\xff\xff\xff\xff\xff\xff\xff\xff"},
		{[]order.Part{order.Str("")}, "\x02\x00\x00"},
		{[]order.Part{order.Str("ab")}, "\x02ab\x00\x00"},
		{[]order.Part{order.Str("\x00")}, "\x02\x00\xff\x00\x00"},
		{[]order.Part{order.Str("a\x00\x00b\xff")}, "\x02a\x00\xff\x00\xffb\xff\x00\x00"},
		{[]order.Part{order.Str("\x00\xff")}, "\x02\x00\xff\xff\x00\x00"},
		{[]order.Part{order.Str("a"), order.Num(2), order.Str("")}, "\x02a\x00\x00\x01\x00\x00\x00\x00\x00\x00\x00\x02\x02\x00\x00"},
		{[]order.Part{{N: 1, S: strings.Repeat("counts nothing", 30)}}, "\x01\x00\x00\x00\x00\x00\x00\x00\x01"},
		{[]order.Part{{Text: true, N: 77, S: "a"}}, "\x02a\x00\x00"},
	} {
		is(t, "a key", keyed(t, c.row...), c.want)
	}
}

func TestKeysThatAreTooLong(t *testing.T) {
	zeros := func(n int) order.Part { return order.Str(strings.Repeat("\x00", n)) }
	x := func(n int) order.Part { return order.Str(strings.Repeat("x", n)) }
	nums := make([]order.Part, 28)
	for _, c := range []struct {
		row  []order.Part
		want int // bytes; 0: too long
	}{
		{[]order.Part{x(252)}, 255},
		{[]order.Part{x(253)}, 0},
		{[]order.Part{x(255)}, 0},
		{[]order.Part{x(256)}, 0},
		{[]order.Part{x(1 << 20)}, 0},
		{[]order.Part{zeros(126)}, 255},
		{[]order.Part{zeros(127)}, 0},
		{[]order.Part{order.Num(1), x(243)}, 255},
		{[]order.Part{order.Num(1), x(244)}, 0},
		{[]order.Part{x(243), order.Num(1)}, 255},
		{[]order.Part{x(244), order.Num(1)}, 0},
		{nums, 252},
		{append(slices.Clone(nums), order.Str("")), 255},
		{append(slices.Clone(nums), order.Str("a")), 0},
		{append(slices.Clone(nums), order.Num(0)), 0},
		{append(slices.Clone(nums), order.Str(""), order.Str("")), 0},
		{make([]order.Part, 100000), 0},
	} {
		key, e := order.Key(c.row...)
		is(t, "bytes", len(key), c.want)
		is(t, "ErrLong", e == api.ErrLong, c.want == 0)
		is(t, "OK", e == api.OK, c.want != 0)
	}
}

func TestPartsOfKeys(t *testing.T) {
	for _, key := range []string{
		"\x03", "\x00", "\xff", "a", "\x02\x00\x00a",
		"\x01", "\x01\x00\x00\x00\x00\x00\x00\x00", "\x01\x00\x00\x00\x00\x00\x00\x00\x00\x00",
		"\x02", "\x02a", "\x02\x00", "\x02a\x00", "\x02a\x00\xff", "\x02a\x00\xff\x00",
		"\x02a\x00\x01\x00\x00", "\x02a\x00\xfe\x00\x00", "\x02\x00a\x00\x00",
		"\x02a\x00\x00\x02", "\x02a\x00\x00\x01\x02",
		keyed(t, order.Str(strings.Repeat("x", 252))) + "\x02\x00\x00", // each part is one, but they are too many bytes
		"\x02" + strings.Repeat("x", 253) + "\x00\x00",
		strings.Repeat("\x02\x00\x00", 86),
	} {
		l, e := order.Parts(key)
		is(t, "beside an error", len(l), 0)
		is(t, strconv.Quote(key), e, api.ErrKey)
	}
	l, e := order.Parts("")
	is(t, "no parts", len(l), 0)
	is(t, "OK", e, api.OK)
	l, e = order.Parts(strings.Repeat("\x02\x00\x00", 85))
	is(t, "255 bytes", len(l), 85)
	is(t, "OK", e, api.OK)
}

// rows are some of whose parts many are alike, and those at the ends of their kinds; each has a key.
func rows() [][]order.Part {
	n, s := order.Num, order.Str
	parts := []order.Part{
		n(0), n(1), n(2), n(255), n(256), n(1 << 32), n(1 << 63), n(math.MaxUint64),
		s(""), s("\x00"), s("\x00\x00"), s("\x00\x01"), s("\x00\xff"), s("\x01"), s("\x02"), s("a"), s("a\x00"), s("a\x00b"), s("a\x01"), s("ab"), s("b"), s("\xfe"), s("\xff"), s("\xff\x00"), s("\xff\xff"),
	}
	l := [][]order.Part{nil}
	for _, a := range parts {
		l = append(l, []order.Part{a})
		for _, b := range parts {
			l = append(l, []order.Part{a, b})
		}
	}
	chance := rand.New(rand.NewPCG(5, 6))
	for range 300 {
		row := make([]order.Part, 3+chance.IntN(3))
		for i := range row {
			row[i] = parts[chance.IntN(len(parts))]
		}
		l = append(l, row)
	}
	return l
}

// below is what the document says of rows: 1, if a stands ahead, -1, if b does, 0, if neither.
func below(a, b []order.Part) int {
	if len(a) == 0 || len(b) == 0 {
		switch {
		case len(a) < len(b):
			return 1
		case len(a) > len(b):
			return -1
		}
		return 0
	}
	x, y := a[0], b[0]
	switch {
	case !x.Text && y.Text:
		return 1
	case x.Text && !y.Text:
		return -1
	case !x.Text && x.N != y.N:
		if x.N < y.N {
			return 1
		}
		return -1
	case x.Text && x.S != y.S:
		return strings.Compare(y.S, x.S)
	}
	return below(a[1:], b[1:])
}

func TestLess(t *testing.T) {
	n, s := order.Num, order.Str
	rising := [][]order.Part{
		{}, {n(0)}, {n(0), n(0)}, {n(0), s("")}, {n(1)}, {n(1), n(5)}, {n(1), s("z")}, {n(255)}, {n(256)}, {n(math.MaxUint64), s("z")},
		{s("")}, {s(""), n(1)}, {s(""), s("")}, {s("\x00")}, {s("\x00"), s("a")}, {s("a")}, {s("a"), n(9)}, {s("a"), s("")}, {s("a\x00")}, {s("ab")}, {s("b")}, {s("\xff")},
	}
	for i, a := range rising {
		for j, b := range rising {
			is(t, strconv.Itoa(i)+" ahead of "+strconv.Itoa(j), order.Less(a, b), i < j)
		}
	}
	is(t, "nil and empty", order.Less(nil, []order.Part{}) || order.Less([]order.Part{}, nil), false)
	a, b := []order.Part{{N: 1, S: "b"}, {Text: true, N: 2, S: "x"}}, []order.Part{{N: 1, S: "a"}, {Text: true, N: 1, S: "x"}}
	is(t, "what doesn't count", order.Less(a, b) || order.Less(b, a), false)
	a[1].S = "w"
	is(t, "behind what doesn't count", order.Less(a, b), true)
	is(t, "the other way", order.Less(b, a), false)
	long := strings.Repeat("x", 1000)
	is(t, "rows without a key", order.Less([]order.Part{s(long)}, []order.Part{s(long + "a")}), true)
}

func TestKeysStandAsTheirRows(t *testing.T) {
	l := rows()
	keys := make([]string, len(l))
	for i, row := range l {
		keys[i] = keyed(t, row...)
	}
	for i, a := range l {
		for j, b := range l {
			if order.Less(a, b) != (below(a, b) == 1) {
				t.Fatalf("Less of %v and %v is %v", a, b, order.Less(a, b))
			}
			if strings.Compare(keys[j], keys[i]) != below(a, b) {
				t.Fatalf("the keys of %v and %v don't stand as they do", a, b)
			}
			begins := len(b) <= len(a) && slices.Equal(a[:len(b)], b)
			if strings.HasPrefix(keys[i], keys[j]) != begins {
				t.Fatalf("does the key of %v begin with that of %v?", a, b)
			}
		}
	}
}

func TestKeysAreReadAsTheyWere(t *testing.T) {
	for _, row := range rows() {
		got, e := order.Parts(keyed(t, row...))
		is(t, "OK", e, api.OK)
		is(t, "the row", slices.Equal(got, row), true)
	}
	got, e := order.Parts(keyed(t, order.Part{N: 1, S: "b"}, order.Part{Text: true, N: 1, S: "b"}))
	is(t, "OK", e, api.OK)
	is(t, "what doesn't count is gone", slices.Equal(got, []order.Part{order.Num(1), order.Str("b")}), true)
}

func TestBytesThatAreKeysAreWrittenAsTheyWere(t *testing.T) {
	chance := rand.New(rand.NewPCG(7, 8))
	bytes := "\x00\x00\x00\x01\x02\x02\xff\xffa"
	found := 0
	for range 200000 {
		b := make([]byte, chance.IntN(12))
		for i := range b {
			b[i] = bytes[chance.IntN(len(bytes))]
		}
		l, e := order.Parts(string(b))
		if e != api.OK {
			is(t, "error", e, api.ErrKey)
			continue
		}
		found++
		if keyed(t, l...) != string(b) {
			t.Fatalf("%q are the parts %v", b, l)
		}
	}
	is(t, "enough were keys", found > 1000, true)
}

func TestAfter(t *testing.T) {
	for prefix, want := range map[string]string{
		"a": "b", "ab": "ac", "a\x00": "a\x01", "\x00": "\x01", "\xfe": "\xff", "\x7f": "\x80",
		"a\xff": "b", "a\xff\xff": "b", "\x00\xff": "\x01", "\xff\x01": "\xff\x02", "\xff\xfe\xff": "\xff\xff", "a\xfe": "a\xff",
	} {
		got, ok := order.After(prefix)
		is(t, strconv.Quote(prefix), got, want)
		is(t, "there is one", ok, true)
	}
	for _, prefix := range []string{"", "\xff", "\xff\xff", strings.Repeat("\xff", 1000)} {
		got, ok := order.After(prefix)
		is(t, "none", got, "")
		is(t, "there is none", ok, false)
	}
	long := strings.Repeat("x", 1000)
	got, ok := order.After(long + "\xff")
	is(t, "of a long one", got, long[1:]+"y")
	is(t, "there is one", ok, true)
}

// short are all texts of at most two of some bytes.
func short() []string {
	l := []string{""}
	for _, a := range "\x00\x01ay" {
		l = append(l, string(a))
		for _, b := range "\x00\x01ay" {
			l = append(l, string(a)+string(b))
		}
	}
	return append(l, "\xff", "a\xff", "\xff\xff", "\xff\x00", "\xfe", "b", "z", "\x00\xff", "\x02")
}

func TestAfterAndNextAreTheLeast(t *testing.T) {
	for _, x := range short() {
		after, ok := order.After(x)
		next := order.Next(x)
		is(t, "Next", next, x+"\x00")
		for _, y := range short() {
			behindAll := y > x && !strings.HasPrefix(y, x)
			if behindAll && (!ok || y < after) || !behindAll && ok && y >= after {
				t.Errorf("After(%q) is %q, %v: what of %q?", x, after, ok, y)
			}
			if y > x != (y >= next) {
				t.Errorf("Next(%q) is %q: what of %q?", x, next, y)
			}
		}
	}
}

func TestWhatIsHandedInStays(t *testing.T) {
	room := []order.Part{order.Num(1), order.Str("a\x00"), order.Num(9)}
	was := slices.Clone(room)
	key, _ := order.Key(room[:2]...)
	order.Less(room[:2], room[1:])
	is(t, "room", slices.Equal(room, was), true)
	a, _ := order.Parts(key)
	a[0].N = 77
	b, _ := order.Parts(key)
	is(t, "the second answer", b[0], order.Num(1))
}
