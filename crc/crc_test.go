package crc_test

import (
	"hash/crc32"
	"math/rand/v2"
	"strconv"
	"strings"
	"testing"

	"taproot/crc"
)

// texts are of all lengths that matter to a sum that goes byte by byte, and of all bytes.
func texts() []string {
	chance := rand.New(rand.NewPCG(1, 2))
	l := []string{"", "a", "\x00", "\xff", "\x00\x00\x00\x00", "\xff\xff\xff\xff", "123456789", strings.Repeat("\x00", 4092)}
	for n := 1; n < 600; n = n*3/2 + 1 {
		b := make([]byte, n)
		for i := range b {
			b[i] = byte(chance.Uint32())
		}
		l = append(l, string(b))
	}
	all := make([]byte, 256)
	for i := range all {
		all[i] = byte(i)
	}
	return append(l, string(all))
}

func TestMakeIsTheTable(t *testing.T) {
	table := crc.Make()
	for i, n := range crc32.IEEETable {
		if table[i] != n {
			t.Errorf("the number of %d is %x, wanted %x", i, table[i], n)
		}
	}
}

func TestExample(t *testing.T) {
	table := crc.Make()
	if sum := table.Of("123456789"); sum != 0xcbf43926 {
		t.Errorf("%x", sum)
	}
}

func TestAddGoesOn(t *testing.T) {
	table := crc.Make()
	for _, text := range texts() {
		for _, sum := range []uint32{0, 1, 0xff, 0x80000000, 0xdeadbeef, 1<<32 - 1} {
			if got, want := table.Add(sum, text), crc32.Update(sum, crc32.IEEETable, []byte(text)); got != want {
				t.Errorf("Add(%x, %d bytes) is %x, wanted %x", sum, len(text), got, want)
			}
		}
		if got, want := table.Of(text), crc32.ChecksumIEEE([]byte(text)); got != want {
			t.Errorf("Of(%d bytes) is %x, wanted %x", len(text), got, want)
		}
	}
}

func TestNilTableIsAsMakes(t *testing.T) {
	var none *crc.Table
	table := crc.Make()
	for _, text := range texts() {
		if none.Of(text) != table.Of(text) || none.Add(77, text) != table.Add(77, text) {
			t.Errorf("%d bytes: a nil table has other sums", len(text))
		}
	}
}

// byRule is what the document says of Add, by any table.
func byRule(table crc.Table, sum uint32, text string) uint32 {
	sum ^= 0xffffffff
	for _, b := range []byte(text) {
		sum = table[sum%256^uint32(b)] ^ sum/256
	}
	return sum ^ 0xffffffff
}

func TestAnotherTableIsGoneByAsItIs(t *testing.T) {
	chance := rand.New(rand.NewPCG(3, 4))
	var odd, zero crc.Table
	for i := range odd {
		odd[i] = chance.Uint32()
	}
	for _, table := range []crc.Table{odd, zero} {
		was := table
		over := crc.Over(&table, func(s string) string { return s })
		for _, text := range texts() {
			want := byRule(was, 5, text)
			if got := table.Add(5, text); got != want {
				t.Errorf("Add(5, %d bytes) is %x, wanted %x", len(text), got, want)
			}
			if got, want := over.Of(text), byRule(was, 0, text); got != want {
				t.Errorf("over it %d bytes are %x, wanted %x", len(text), got, want)
			}
		}
		if table != was {
			t.Error("the table was changed")
		}
	}
}

type pair struct {
	name string
	n    int
}

func (p pair) bytes() string { return p.name + "=" + strconv.Itoa(p.n) + ";" }

func TestOverSumsThings(t *testing.T) {
	table := crc.Make()
	over := crc.Over(&table, pair.bytes)
	a, b, c := pair{"a", 1}, pair{"bb", 22}, pair{}
	if over.Of(a) != table.Of("a=1;") || over.Of(c) != table.Of("=0;") {
		t.Error("Of isn't the sum of the bytes")
	}
	for _, one := range []struct {
		l    []pair
		text string
	}{
		{nil, ""},
		{[]pair{}, ""},
		{[]pair{b}, "bb=22;"},
		{[]pair{a, b, c}, "a=1;bb=22;=0;"},
		{[]pair{c, b, a}, "=0;bb=22;a=1;"},
		{[]pair{a, a}, "a=1;a=1;"},
	} {
		if got, want := over.All(one.l), table.Of(one.text); got != want {
			t.Errorf("All of %q is %x, wanted %x", one.text, got, want)
		}
	}
	same := crc.Over(nil, pair.bytes)
	if same.Of(b) != over.Of(b) || same.All([]pair{a, b}) != over.All([]pair{a, b}) {
		t.Error("over a nil table the sums are others")
	}
}

func TestOverWithoutBytes(t *testing.T) {
	odd := crc.Table{1, 2, 3}
	var zero crc.Summer[int]
	for _, s := range []crc.Summer[int]{crc.Over[int](nil, nil), crc.Over[int](&odd, nil), zero} {
		if s.Of(7) != 0 || s.All([]int{1, 2}) != 0 || s.All(nil) != 0 {
			t.Error("without bytes the sum isn't that of the empty text")
		}
	}
}

func TestOverKeepsNothingThatWasHandedIn(t *testing.T) {
	table := crc.Make()
	over := crc.Over(&table, func(s string) string { return s })
	clear(table[:])
	if got := over.Of("123456789"); got != 0xcbf43926 {
		t.Errorf("%x: it follows a table that was changed later", got)
	}
}

func TestNothingPanics(t *testing.T) {
	over := crc.Over(nil, func(n int) string {
		if n == 2 {
			panic("no bytes")
		}
		return strconv.Itoa(n)
	})
	if got := over.Of(2); got != 0 {
		t.Errorf("%x, wanted the sum of the empty text", got)
	}
	if got, want := over.All([]int{1, 2, 3}), crc32.ChecksumIEEE([]byte("13")); got != want {
		t.Errorf("%x, wanted %x", got, want)
	}
}

func TestPartsMakeNoDifference(t *testing.T) {
	table := crc.Make()
	over := crc.Over(&table, func(s string) string { return s })
	for _, text := range texts() {
		if len(text) > 300 {
			continue
		}
		for i := range len(text) + 1 {
			if table.Add(table.Of(text[:i]), text[i:]) != table.Of(text) {
				t.Fatalf("%d bytes, parted at %d, have another sum", len(text), i)
			}
			half := i / 2
			if over.All([]string{text[:half], text[half:i], "", text[i:]}) != table.Of(text) {
				t.Fatalf("%d bytes, parted at %d and %d, have another sum", len(text), half, i)
			}
		}
	}
}

func TestWhatIsTurnedWithinFourBytesIsSeen(t *testing.T) {
	chance := rand.New(rand.NewPCG(5, 6))
	table := crc.Make()
	for _, text := range texts() {
		sum := table.Of(text)
		for range 400 {
			if len(text) == 0 {
				break
			}
			b := []byte(text)
			from := chance.IntN(len(b))
			mask := chance.Uint32()
			if chance.IntN(2) == 0 {
				mask = 1 << chance.IntN(32)
			}
			turned := false
			for i := range min(4, len(b)-from) {
				by := byte(mask >> (8 * i))
				b[from+i] ^= by
				turned = turned || by != 0
			}
			if turned && table.Of(string(b)) == sum {
				t.Fatalf("%d bytes, turned at %d by %x, have the same sum", len(b), from, mask)
			}
		}
	}
}
