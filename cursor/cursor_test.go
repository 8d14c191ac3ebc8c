package cursor_test

import (
	"iter"
	"math/rand/v2"
	"slices"
	"strings"
	"testing"

	"taproot/api"
	"taproot/cursor"
	"taproot/node"
	"taproot/order"
	"taproot/slots"
	"taproot/tree"
)

func is[T comparable](t *testing.T, what string, got, want T) {
	t.Helper()
	if got != want {
		t.Errorf("%s: %v, wanted %v", what, got, want)
	}
}

// watched is a space in memory that tells which pages were loaded, and can't load one of them.
type watched struct {
	*tree.Memory
	loads []uint32
	lost  uint32
}

func (w *watched) Load(id uint32) (node.Node, api.Errno) {
	w.loads = append(w.loads, id)
	if id == w.lost {
		return node.Node{Leaf: true, Cells: []api.Cell{{Key: "not this"}}}, api.ErrSum
	}
	return w.Memory.Load(id)
}

// leaf is one of cells of the keys that these words are, with a kid that counts nothing.
func leaf(words string) node.Node {
	n := node.Node{Leaf: true, Kids: []slots.Kid{{Page: 99}}}
	for _, w := range strings.Fields(words) {
		n.Cells = append(n.Cells, api.Cell{Key: w, Value: "of " + w})
	}
	return n
}

// small is a tree of three levels: 8 is the root, 6 and 7 are below it, 2, 3 and 4, 5 below these.
func small() *tree.Tree[*watched] {
	m := tree.New()
	for _, words := range []string{"a c e", "g i", "m", "s u w"} {
		m.Make(leaf(words))
	}
	m.Make(node.Node{Kids: []slots.Kid{{Page: 2}, {Key: "f", Page: 3}}})
	m.Make(node.Node{Kids: []slots.Kid{{Page: 4}, {Key: "q", Page: 5}}})
	m.Make(node.Node{Kids: []slots.Kid{{Page: 6}, {Key: "k", Page: 7}}})
	return tree.Over(&watched{Memory: m}, 8)
}

// told is a row as words: its keys, and its errors' texts.
func told(r cursor.Row) string {
	text := ""
	for c, e := range r {
		switch {
		case e != api.OK && c == api.Cell{}:
			text += e.Error() + " "
		case e != api.OK:
			text += "a cell beside " + e.Error() + " "
		default:
			text += c.Key + " "
		}
	}
	return strings.TrimSpace(text)
}

// ids is a row of pages as numbers, and its errors.
func ids(t *testing.T, r iter.Seq2[uint32, api.Errno]) ([]uint32, api.Errno) {
	t.Helper()
	var l []uint32
	last := api.OK
	for id, e := range r {
		is(t, "nothing behind an error", last, api.OK)
		if last = e; e == api.OK {
			l = append(l, id)
			continue
		}
		is(t, "no page beside an error", id, 0)
	}
	return l, last
}

// turned are words the other way round.
func turned(words string) string {
	l := strings.Fields(words)
	slices.Reverse(l)
	return strings.Join(l, " ")
}

func TestBounds(t *testing.T) {
	tr := small()
	is(t, "All", told(cursor.All(tr)), "a c e g i m s u w")
	for _, w := range []struct{ from, to, want string }{
		{"", "", "a c e g i m s u w"},
		{"a", "", "a c e g i m s u w"},
		{"b", "", "c e g i m s u w"},
		{"e", "", "e g i m s u w"},
		{"e\x00", "", "g i m s u w"},
		{"w", "", "w"},
		{"x", "", ""},
		{"", "a", ""},
		{"", "a\x00", "a"},
		{"", "e", "a c"},
		{"", "f", "a c e"},
		{"", "g", "a c e"},
		{"", "j", "a c e g i"},
		{"", "k", "a c e g i"},
		{"", "m", "a c e g i"},
		{"", "z", "a c e g i m s u w"},
		{"c", "u", "c e g i m s"},
		{"e", "m\x00", "e g i m"},
		{"f", "g", ""},
		{"f", "f\xff", ""},
		{"n", "r", ""},
		{"m", "m", ""},
		{"u", "c", ""},
		{"m", "m\x00", "m"},
	} {
		is(t, "Range from "+w.from+" to "+w.to, told(cursor.Range(tr, w.from, w.to)), w.want)
		is(t, "Down from "+w.from+" to "+w.to, told(cursor.Down(tr, w.from, w.to)), turned(w.want))
	}
	for c, e := range cursor.Range(tr, "g", "h") {
		is(t, "the whole cell", c == api.Cell{Key: "g", Value: "of g"} && e == api.OK, true)
	}
}

func TestPrefix(t *testing.T) {
	tr := tree.Over(tree.New(), 0)
	all := []string{"", "a", "a\x00", "ab", "abc", "ab\xff", "ac", "b", "\xfe\xff", "\xff", "\xff\xff", "\xff\xffa"}
	for _, key := range all {
		tr.Put(api.Cell{Key: key})
	}
	for _, prefix := range append(all, "c", "\xfe", "ab\xff\xff", "\xff\xff\xff", "b\x00") {
		var want, got []string
		for _, key := range all {
			if strings.HasPrefix(key, prefix) {
				want = append(want, key)
			}
		}
		for c, e := range cursor.Prefix(tr, prefix) {
			is(t, "no error", e, api.OK)
			got = append(got, c.Key)
		}
		if !slices.Equal(got, want) {
			t.Errorf("Prefix of %q: %q, wanted %q", prefix, got, want)
		}
	}
}

func TestWhatIsLoaded(t *testing.T) {
	for _, w := range []struct {
		from, to string
		down     bool
		cells    int // after which the row is left; 0: none is asked for
		want     []uint32
	}{
		{"", "", false, 0, nil},
		{"", "", false, 1, []uint32{8, 6, 2}},
		{"", "", false, 3, []uint32{8, 6, 2}},
		{"", "", false, 4, []uint32{8, 6, 2, 3}},
		{"", "", false, 6, []uint32{8, 6, 2, 3, 7, 4}},
		{"", "", false, 99, []uint32{8, 6, 2, 3, 7, 4, 5}},
		{"", "", true, 1, []uint32{8, 7, 5}},
		{"", "", true, 3, []uint32{8, 7, 5}},
		{"", "", true, 4, []uint32{8, 7, 5, 4}},
		{"", "", true, 99, []uint32{8, 7, 5, 4, 6, 3, 2}},
		{"h", "", false, 1, []uint32{8, 6, 3}},
		{"s", "", false, 99, []uint32{8, 7, 5}},
		{"", "f", false, 99, []uint32{8, 6, 2}},
		{"", "f", true, 99, []uint32{8, 6, 2}},
		{"", "f\x00", false, 99, []uint32{8, 6, 2, 3}},
		{"", "k", true, 99, []uint32{8, 6, 3, 2}},
		{"g", "q", false, 99, []uint32{8, 6, 3, 7, 4}},
		{"g", "q", true, 99, []uint32{8, 7, 4, 6, 3}},
		{"m", "m\x00", false, 99, []uint32{8, 7, 4}},
		{"m", "m", false, 99, nil},
		{"u", "c", true, 99, nil},
	} {
		tr := small()
		row := cursor.Range(tr, w.from, w.to)
		if w.down {
			row = cursor.Down(tr, w.from, w.to)
		}
		n := 0
		if w.cells > 0 {
			for range row {
				if n++; n == w.cells {
					break
				}
			}
		}
		if !slices.Equal(tr.In.loads, w.want) {
			t.Errorf("%d from %q to %q (falling: %v): loaded %v, wanted %v", w.cells, w.from, w.to, w.down, tr.In.loads, w.want)
		}
	}
}

func TestPages(t *testing.T) {
	tr := small()
	l, e := ids(t, cursor.Pages(tr))
	is(t, "Pages", e == api.OK && slices.Equal(l, []uint32{8, 6, 2, 3, 7, 4, 5}), true)
	is(t, "each is loaded once", slices.Equal(tr.In.loads, l), true)
	tr.In.loads = nil
	for id, e := range cursor.Pages(tr) {
		is(t, "one by one", e == api.OK && tr.In.loads[len(tr.In.loads)-1] == id, true)
		if id == 3 {
			break
		}
	}
	is(t, "left", slices.Equal(tr.In.loads, []uint32{8, 6, 2, 3}), true)
}

func TestPagesThatAreLost(t *testing.T) {
	for _, w := range []struct {
		lost         uint32
		up, down     string
		pages        []uint32
		upTo, downTo string // within bounds that don't reach the page
	}{
		{8, "error 10", "error 10", nil, "", ""},
		{6, "error 10", "w u s m error 10", []uint32{8}, "", "w u s m"},
		{3, "a c e error 10", "w u s m error 10", []uint32{8, 6, 2}, "a c e", "w u s m"},
		{4, "a c e g i error 10", "w u s error 10", []uint32{8, 6, 2, 3, 7}, "a c e", "w u s"},
		{5, "a c e g i m error 10", "error 10", []uint32{8, 6, 2, 3, 7, 4}, "a c e", "error 10"},
	} {
		tr := small()
		tr.In.lost = w.lost
		is(t, "All", told(cursor.All(tr)), w.up)
		is(t, "Down", told(cursor.Down(tr, "", "")), w.down)
		l, e := ids(t, cursor.Pages(tr))
		is(t, "Pages", e == api.ErrSum && slices.Equal(l, w.pages), true)
		if w.upTo != "" {
			is(t, "within bounds", told(cursor.Range(tr, "", "f")), w.upTo)
		}
		if w.downTo == "w u s m" {
			is(t, "within bounds, falling", told(cursor.Down(tr, "k", "")), w.downTo)
		}
		for range cursor.All(tr) { // an error may be left, too
			break
		}
		for range cursor.Pages(tr) {
			break
		}
	}
	tr := tree.Over(tree.New(), 7)
	is(t, "of no page", told(cursor.All(tr)), "error 12")
	tr.Root, _ = tr.In.Make(node.Node{Kids: []slots.Kid{{}}})
	is(t, "of no page below", told(cursor.All(tr)), "error 12")
}

func TestLevels(t *testing.T) {
	w := &watched{Memory: tree.New()}
	root, _ := w.Make(leaf("a b"))
	for range api.MaxDepth - 1 {
		root, _ = w.Make(node.Node{Kids: []slots.Kid{{Page: root}}})
	}
	tr := tree.Over(w, root)
	is(t, "eight levels", told(cursor.All(tr)), "a b")
	is(t, "eight levels down", told(cursor.Down(tr, "", "")), "b a")
	l, e := ids(t, cursor.Pages(tr))
	is(t, "its pages", e == api.OK && len(l) == 8, true)
	first, _ := w.Make(leaf("A"))
	tr.Root, _ = w.Make(node.Node{Kids: []slots.Kid{{Page: first}, {Key: "a", Page: root}}})
	w.loads = nil
	is(t, "a ninth one", told(cursor.All(tr)), "A error 12")
	is(t, "it isn't loaded", len(w.loads), 9)
	is(t, "a ninth one down", told(cursor.Down(tr, "", "")), "error 12")
	l, e = ids(t, cursor.Pages(tr))
	is(t, "the pages ahead of it", e == api.ErrPage && len(l) == 9, true)
	tr.Root, _ = w.Make(node.Node{})
	w.Save(tr.Root, node.Node{Kids: []slots.Kid{{Page: tr.Root}, {Key: "m", Page: tr.Root}}})
	is(t, "what leads to itself", told(cursor.All(tr)), "error 12")
	l, e = ids(t, cursor.Pages(tr))
	is(t, "its pages again and again", e == api.ErrPage && len(l) == 8, true)
}

func TestRowsAgain(t *testing.T) {
	tr := tree.Over(tree.New(), 0)
	up, down, some, pages := cursor.All(tr), cursor.Down(tr, "", ""), cursor.Prefix(tr, "b"), cursor.Pages(tr)
	is(t, "of an empty tree", told(up)+told(down)+told(some), "")
	l, e := ids(t, pages)
	is(t, "its pages", len(l) == 0 && e == api.OK, true)
	for _, key := range []string{"b", "a", "bc", "c"} {
		tr.Put(api.Cell{Key: key})
		tr.In.Freeze()
	}
	for range 2 {
		is(t, "All", told(up), "a b bc c")
		is(t, "Down", told(down), "c bc b a")
		is(t, "Prefix", told(some), "b bc")
		l, e = ids(t, pages)
		is(t, "Pages", len(l) == 1 && l[0] == tr.Root && e == api.OK, true)
	}
	tr.Cut("bc")
	is(t, "what is there then", told(up)+" "+told(down)+" "+told(some), "a b c c b a b")
}

// Whatever row of a tree is told by chance, it is what a sorted list has.
func TestByChance(t *testing.T) {
	r := rand.New(rand.NewPCG(1, 2))
	tr := tree.Over(tree.New(), 0)
	var all []string
	for range 1200 {
		b := make([]byte, 1+r.IntN(4))
		for i := range b {
			b[i] = byte("\x00abc\xff"[r.IntN(5)])
		}
		key := string(b) + strings.Repeat("x", r.IntN(200))
		if _, there, _ := tr.Put(api.Cell{Key: key}); !there {
			all = append(all, key)
		}
	}
	slices.Sort(all)
	some := func() string {
		key := all[r.IntN(len(all))]
		return []string{"", key, order.Next(key), key[:1], key[:len(key)-1]}[r.IntN(5)]
	}
	for range 400 {
		from, mid, to := some(), some(), some()
		want := within(all, from, to)
		got := keys(t, cursor.Range(tr, from, to))
		is(t, "Range", slices.Equal(got, want), true)
		down := keys(t, cursor.Down(tr, from, to))
		slices.Reverse(down)
		is(t, "Down is Range turned round", slices.Equal(down, want), true)
		if mid != "" && from <= mid && (to == "" || mid <= to) {
			both := append(keys(t, cursor.Range(tr, from, mid)), keys(t, cursor.Range(tr, mid, to))...)
			is(t, "bounds that touch", slices.Equal(both, want), true)
		}
	}
	if d, _ := tr.Depth(); d < 3 {
		t.Errorf("%d levels", d)
	}
}

// within are the keys within bounds.
func within(all []string, from, to string) []string {
	var l []string
	for _, key := range all {
		if key >= from && (to == "" || key < to) {
			l = append(l, key)
		}
	}
	return l
}

// keys are those of a row without errors.
func keys(t *testing.T, r cursor.Row) []string {
	t.Helper()
	var l []string
	for c, e := range r {
		is(t, "no error", e, api.OK)
		l = append(l, c.Key)
	}
	return l
}

// broken is a space that panics when it is asked for a page.
type broken struct{ *tree.Memory }

func (broken) Load(uint32) (node.Node, api.Errno) { panic("load") }

func TestNothingPanics(t *testing.T) {
	var none *tree.Tree[*tree.Memory]
	is(t, "of nil", told(cursor.All(none))+told(cursor.Range(none, "a", "b"))+told(cursor.Prefix(none, "a"))+told(cursor.Down(none, "", "")), "")
	l, e := ids(t, cursor.Pages(none))
	is(t, "its pages", len(l) == 0 && e == api.OK, true)
	is(t, "of a nil space in memory", told(cursor.All(tree.Over[*tree.Memory](nil, 2))), "error 1")
	is(t, "of a space that panics", told(cursor.All(tree.Over(broken{}, 2))), "error 2")
	is(t, "of no space", told(cursor.Down(tree.Over[tree.Space](nil, 2), "", "")), "error 2")
	_, e = ids(t, cursor.Pages(tree.Over(broken{}, 2)))
	is(t, "its pages", e, api.ErrArg)
	m := tree.New()
	id, _ := m.Make(node.Node{})
	is(t, "a branch without kids", told(cursor.All(tree.Over(m, id)))+told(cursor.Down(tree.Over(m, id), "a", "b")), "")
}
