package diff_test

import (
	"math/rand/v2"
	"strings"
	"testing"

	"taproot/api"
	"taproot/diff"
)

// bytesOf are changes', laid by hand.
func bytesOf(l []diff.Change) string {
	b := wrote(len(l))
	for _, c := range l {
		bits := byte(0)
		if c.Had {
			bits++
		}
		if c.Has {
			bits += 2
		}
		b += wrote(c.Key, bits, c.Was, c.Now)
	}
	return b
}

// parsed wants bytes to be just these changes.
func parsed(t *testing.T, what, s string, want []diff.Change) {
	t.Helper()
	l, e := diff.Parse(s)
	is(t, what, e, api.OK)
	alike(t, what, l, want)
}

// refused wants bytes to be no changes.
func refused(t *testing.T, what, s string, want api.Errno) {
	t.Helper()
	l, e := diff.Parse(s)
	is(t, what, e, want)
	is(t, what+": no changes", len(l), 0)
}

func TestBytes(t *testing.T) {
	is(t, "none", diff.Bytes(nil), "\x00\x00\x00\x00")
	is(t, "one that comes", diff.Bytes([]diff.Change{comes("k", "no")}), "\x00\x00\x00\x01\x00\x00\x00\x01k\x02\x00\x00\x00\x00\x00\x00\x00\x02no")
	is(t, "one that turns", diff.Bytes([]diff.Change{turns("k", "w", "no")}), "\x00\x00\x00\x01\x00\x00\x00\x01k\x03\x00\x00\x00\x01w\x00\x00\x00\x02no")
	is(t, "one that goes", diff.Bytes([]diff.Change{goes("k", "w")}), "\x00\x00\x00\x01\x00\x00\x00\x01k\x01\x00\x00\x00\x01w\x00\x00\x00\x00")
	is(t, "nothing", diff.Bytes([]diff.Change{{}}), "\x00\x00\x00\x01"+strings.Repeat("\x00", 13))
	odd := []diff.Change{{Key: "b", Was: "x"}, {Key: "a", Now: "y", Had: true}, {Key: "a", Was: "z", Now: "z", Has: true}, {Was: "\x00", Now: "\xff"}}
	for _, l := range [][]diff.Change{nil, some(), diff.Turn(some()), odd} {
		is(t, "by hand", diff.Bytes(l), bytesOf(l))
		parsed(t, "read", bytesOf(l), l)
	}
}

func TestLongTexts(t *testing.T) {
	most := strings.Repeat("t", api.MaxValue)
	for _, c := range []diff.Change{{Key: most, Had: true}, turns("a", most, ""), comes("a", most), turns(most, most, most)} {
		l := []diff.Change{comes("", "x"), c, comes("z", "x")}
		parsed(t, "the longest", diff.Bytes(l), l)
	}
	for _, c := range []diff.Change{comes(most+"t", "x"), turns("a", most+"t", ""), comes("a", most+"t"), turns("a", "", most+most)} {
		l := []diff.Change{comes("", "x"), c, comes("z", "x")}
		is(t, "longer ones are written", diff.Bytes(l), bytesOf(l))
		refused(t, "and not read", diff.Bytes(l), api.ErrLong)
	}
	refused(t, "a lie of how long it is", wrote(1, -1), api.ErrLong)
	refused(t, "a lie of how long it is", wrote(1, "k", byte(3), api.MaxValue+1), api.ErrLong)
	refused(t, "a smaller lie", wrote(1, "k", byte(3), api.MaxValue), api.ErrShort)
}

func TestMany(t *testing.T) {
	l := make([]diff.Change, 4097)
	for i := range l {
		l[i] = comes(strings.Repeat("k", i%5), "v")
	}
	parsed(t, "the most", diff.Bytes(l[:4096]), l[:4096])
	is(t, "more are written", diff.Bytes(l), bytesOf(l))
	refused(t, "and not read", diff.Bytes(l), api.ErrMany)
	refused(t, "a lie", wrote(4097), api.ErrMany)
	refused(t, "a great lie", wrote(-1)+bytesOf(some()), api.ErrMany)
	refused(t, "a small lie", wrote(4096), api.ErrShort)
	refused(t, "one more", wrote(2)+bytesOf(some()[:1])[4:], api.ErrShort)
	refused(t, "one less", wrote(0)+bytesOf(some()[:1])[4:], api.ErrForm)
}

func TestParse(t *testing.T) {
	for bits := range 256 {
		s := wrote(1, "k", byte(bits), "was", "now")
		if bits > 3 {
			refused(t, "another byte", s, api.ErrForm)
			continue
		}
		parsed(t, "a byte", s, []diff.Change{{Key: "k", Was: "was", Now: "now", Had: bits%2 == 1, Has: bits > 1}})
	}
	whole := bytesOf(some())
	for n := range len(whole) {
		refused(t, "cut off", whole[:n], api.ErrShort)
	}
	for _, rest := range []string{"\x00", whole, "\xff\xff\xff\xff"} {
		refused(t, "something behind", whole+rest, api.ErrForm)
	}
}

// What is met first, from the front on, is told.
func TestFirstFault(t *testing.T) {
	long := 1 << 20
	for _, w := range []struct {
		what, s string
		want    api.Errno
	}{
		{"how many ahead of a key", wrote(4097, long), api.ErrMany},
		{"a key ahead of the byte", wrote(1, long, byte(4)), api.ErrLong},
		{"a key that isn't there ahead of the byte", wrote(1, 2, byte(4)), api.ErrShort},
		{"the byte ahead of what was", wrote(1, "k", byte(4), long), api.ErrForm},
		{"the byte ahead of what is", wrote(1, "k", byte(255), "w", long), api.ErrForm},
		{"the byte ahead of the end", wrote(1, "k", byte(4)), api.ErrForm},
		{"no byte", wrote(1, "k"), api.ErrShort},
		{"what was ahead of what is", wrote(1, "k", byte(3), 2, "w", long), api.ErrLong},
		{"what was ahead of the end", wrote(1, "k", byte(3), long), api.ErrLong},
		{"what is ahead of the next key", wrote(2, "k", byte(3), "w", long, long), api.ErrLong},
		{"one ahead of the next one", wrote(2, "k", byte(4), "", "", long), api.ErrForm},
		{"the next one", wrote(2, "k", byte(3), "", "", long, byte(9)), api.ErrLong},
		{"all of them ahead of the rest", wrote(1, "k", byte(3), "", 7), api.ErrShort},
		{"the rest at last", wrote(1, "k", byte(3), "", "", byte(9)), api.ErrForm},
	} {
		refused(t, w.what, w.s, w.want)
	}
}

// Turned bytes are refused, or would be written so.
func TestTurnedBytes(t *testing.T) {
	d := rand.New(rand.NewPCG(31, 1))
	whole, read := diff.Bytes(some()), 0
	for range 30000 {
		b := []byte(whole)
		for range 1 + d.IntN(3) {
			at := d.IntN(len(b))
			switch d.IntN(4) {
			case 0:
				b = append(b[:at], b[at+1:]...)
			case 1:
				b[at] += byte(d.IntN(3)) - 1
			default:
				b[at] = byte(d.IntN(256))
			}
		}
		l, e := diff.Parse(string(b))
		if e != api.OK {
			is(t, "refused: no changes", len(l), 0)
			is(t, "refused", e == api.ErrShort || e == api.ErrForm || e == api.ErrLong || e == api.ErrMany, true)
			continue
		}
		read++
		is(t, "would be written so", diff.Bytes(l) == string(b), true)
	}
	is(t, "some are read, some refused", read > 1000 && read < 29000, true)
}
