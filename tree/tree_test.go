package tree_test

import (
	"math"
	"slices"
	"strconv"
	"strings"
	"testing"

	"taproot/api"
	"taproot/node"
	"taproot/slots"
	"taproot/tree"
)

func is[T comparable](t *testing.T, what string, got, want T) {
	t.Helper()
	if got != want {
		t.Errorf("%s: %v, wanted %v", what, got, want)
	}
}

// x is a text of so many bytes.
func x(n int) string { return strings.Repeat("x", n) }

// leaf is one of cells of the keys that these words are, each with its own as the value.
func leaf(words string) node.Node {
	n := node.Node{Leaf: true}
	for _, w := range strings.Fields(words) {
		n.Cells = append(n.Cells, api.Cell{Key: w, Value: w})
	}
	return n
}

// watched is a space in memory that tells what was asked of it, and answers an error from some call on.
type watched struct {
	*tree.Memory
	loads, makes, saves int
	drops               map[uint32]int
	foreign             int // saves of pages that aren't its own
	calls               int
	fails               int // the call that fails, and those behind it; 0: none
	with                api.Errno
}

func watch() *watched { return &watched{Memory: tree.New(), drops: map[uint32]int{}} }

func (w *watched) call() api.Errno {
	w.calls++
	if w.fails > 0 && w.calls >= w.fails {
		return w.with
	}
	return api.OK
}

func (w *watched) Load(id uint32) (node.Node, api.Errno) {
	w.loads++
	if e := w.call(); e != api.OK {
		return leaf("not this"), e
	}
	return w.Memory.Load(id)
}

func (w *watched) Make(n node.Node) (uint32, api.Errno) {
	w.makes++
	if e := w.call(); e != api.OK {
		return 99, e
	}
	return w.Memory.Make(n)
}

func (w *watched) Save(id uint32, n node.Node) api.Errno {
	w.saves++
	if !w.Own(id) {
		w.foreign++
	}
	if e := w.call(); e != api.OK {
		return e
	}
	return w.Memory.Save(id, n)
}

func (w *watched) Drop(id uint32) api.Errno {
	w.drops[id]++
	if e := w.call(); e != api.OK {
		return e
	}
	return w.Memory.Drop(id)
}

// changes is how often something was changed.
func (w *watched) changes() int { return w.makes + w.saves + len(w.drops) }

// seen is what a tree is found to be.
type seen struct {
	t     *testing.T
	m     *tree.Memory
	pages map[uint32]bool
	cells []api.Cell
	depth int // of the leaves; 0: none yet
}

// see goes through a tree, and wants it to be right.
func see(t *testing.T, m *tree.Memory, root uint32) *seen {
	t.Helper()
	s := &seen{t: t, m: m, pages: map[uint32]bool{}}
	if root != 0 {
		s.page(root, 1, "", "")
	}
	for i := range len(s.cells) - 1 {
		if s.cells[i].Key >= s.cells[i+1].Key {
			t.Fatalf("keys don't rise: %q ahead of %q", s.cells[i].Key, s.cells[i+1].Key)
		}
	}
	return s
}

// page goes through a page whose keys are from one on, up to another one that isn't in; an empty one is no end.
func (s *seen) page(id uint32, level int, from, to string) {
	s.t.Helper()
	n, e := s.m.Load(id)
	switch {
	case e != api.OK:
		s.t.Fatalf("page %d: %v", id, e)
	case s.pages[id]:
		s.t.Fatalf("page %d is there twice", id)
	case level > api.MaxDepth:
		s.t.Fatalf("page %d is %d levels deep", id, level)
	case !n.Fits():
		s.t.Fatalf("page %d doesn't fit: %d", id, n.Size())
	}
	s.pages[id] = true
	if n.Leaf {
		s.leaf(id, n, level, from, to)
		return
	}
	if len(n.Kids) == 0 || n.Kids[0].Key != "" {
		s.t.Fatalf("page %d: no branch: %v", id, n.Kids)
	}
	for i, k := range n.Kids {
		low, high := max(k.Key, from), to
		if i+1 < len(n.Kids) {
			high = n.Kids[i+1].Key
			if high <= k.Key {
				s.t.Fatalf("page %d: its kids don't rise", id)
			}
		}
		s.page(k.Page, level+1, low, high)
	}
}

func (s *seen) leaf(id uint32, n node.Node, level int, from, to string) {
	s.t.Helper()
	if len(n.Cells) == 0 {
		s.t.Fatalf("page %d: an empty leaf", id)
	}
	if s.depth != 0 && s.depth != level {
		s.t.Fatalf("page %d: a leaf %d levels deep, and another one %d", id, level, s.depth)
	}
	s.depth = level
	for _, c := range n.Cells {
		if c.Key < from || to != "" && c.Key >= to {
			s.t.Fatalf("page %d: %q lies between %q and %q", id, c.Key, from, to)
		}
	}
	s.cells = append(s.cells, n.Cells...)
}

// holds wants a right tree of just these cells, which it tells by Get and Depth, too.
func holds(t *testing.T, what string, tr *tree.Tree[*tree.Memory], want ...api.Cell) {
	t.Helper()
	s := see(t, tr.In, tr.Root)
	if !slices.Equal(s.cells, want) {
		t.Errorf("%s: %v, wanted %v", what, s.cells, want)
	}
	d, e := tr.Depth()
	is(t, what+": Depth's error", e, api.OK)
	is(t, what+": Depth", d, s.depth)
	for _, c := range want {
		got, there, e := tr.Get(c.Key)
		is(t, what+": Get", got, c)
		is(t, what+": Get, there", there, true)
		is(t, what+": Get's error", e, api.OK)
	}
}

func TestOver(t *testing.T) {
	m := tree.New()
	tr := tree.Over(m, 7)
	is(t, "its space", tr.In, m)
	is(t, "its root", tr.Root, 7)
	var any tree.Space = m
	id, _ := m.Make(leaf("a"))
	c, there, e := tree.Over(any, id).Get("a")
	is(t, "over an interface", there && e == api.OK && c.Value == "a", true)
}

func TestEmpty(t *testing.T) {
	w := watch()
	tr := tree.Over(w, 0)
	d, e := tr.Depth()
	is(t, "Depth", d, 0)
	is(t, "Depth's error", e, api.OK)
	c, there, e := tr.Get("a")
	is(t, "Get", c == api.Cell{} && !there && e == api.OK, true)
	c, there, e = tr.Cut("a")
	is(t, "Cut", c == api.Cell{} && !there && e == api.OK, true)
	is(t, "the space isn't asked", w.calls, 0)
	c, there, e = tr.Put(api.Cell{Key: "a", Value: "1"})
	is(t, "Put", c == api.Cell{} && !there && e == api.OK, true)
	is(t, "Put's root", tr.Root, 2)
	d, e = tr.Depth()
	is(t, "Depth of one", d == 1 && e == api.OK, true)
	c, there, e = tr.Cut("a")
	is(t, "Cut of the last one", c == api.Cell{Key: "a", Value: "1"} && there && e == api.OK, true)
	is(t, "the root", tr.Root, 0)
	is(t, "its page was dropped", w.drops[2], 1)
	for range w.Pages() {
		t.Error("a page is left")
	}
}

func TestPutAndCut(t *testing.T) {
	tr := tree.Over(tree.New(), 0)
	one, two, long := api.Cell{Key: "", Value: "1"}, api.Cell{Key: "b"}, api.Cell{Key: "c\x00", Chain: 9, Long: 70000}
	for _, c := range []api.Cell{long, one, two} {
		was, there, e := tr.Put(c)
		is(t, "Put", was == api.Cell{} && !there && e == api.OK, true)
	}
	holds(t, "some", tr, one, two, long)
	for _, key := range []string{"a", "c", "c\x00\x00", x(300)} {
		c, there, e := tr.Get(key)
		is(t, "Get of what isn't there", c == api.Cell{} && !there && e == api.OK, true)
		c, there, e = tr.Cut(key)
		is(t, "Cut of what isn't there", c == api.Cell{} && !there && e == api.OK, true)
	}
	was, there, e := tr.Put(api.Cell{Key: "c\x00", Value: "short"})
	is(t, "Put instead", was == long && there && e == api.OK, true)
	was, there, e = tr.Put(api.Cell{Key: "c\x00", Value: "short"})
	is(t, "the same again", was == api.Cell{Key: "c\x00", Value: "short"} && there && e == api.OK, true)
	holds(t, "another one", tr, one, two, api.Cell{Key: "c\x00", Value: "short"})
	was, there, e = tr.Cut("")
	is(t, "Cut", was == one && there && e == api.OK, true)
	was, there, e = tr.Cut("")
	is(t, "Cut again", was == api.Cell{} && !there && e == api.OK, true)
	holds(t, "what is left", tr, two, api.Cell{Key: "c\x00", Value: "short"})
}

func TestWhatIsTooLong(t *testing.T) {
	w := watch()
	tr := tree.Over(w, 0)
	for _, c := range []api.Cell{
		{Key: x(255), Value: x(400)},
		{Key: x(254), Chain: 1},
		{Key: "b", Chain: math.MaxUint32, Long: math.MaxUint32},
	} {
		_, _, e := tr.Put(c)
		is(t, "what may be", e, api.OK)
	}
	root, asked := tr.Root, w.calls
	for _, c := range []api.Cell{
		{Key: x(256)},
		{Key: x(70000), Value: "v"},
		{Key: "b", Value: x(401)},
		{Key: "b", Value: x(70000)},
		{Key: "b", Value: "v", Chain: 2, Long: 1},
		{Key: x(256), Value: "v", Chain: 2},
	} {
		was, there, e := tr.Put(c)
		is(t, "what is too long", was == api.Cell{} && !there && e == api.ErrLong, true)
		_, _, e = tree.Over(w, 77).Put(c)
		is(t, "ahead of the space's error", e, api.ErrLong)
	}
	is(t, "the root", tr.Root, root)
	is(t, "the space isn't asked", w.calls, asked)
	is(t, "three cells", len(see(t, w.Memory, tr.Root).cells), 3)
}

// A Cut of nothing changes nothing; a Put of what is there writes all the same.
func TestWhatIsWritten(t *testing.T) {
	w := watch()
	tr := tree.Over(w, 0)
	for i := range 200 {
		tr.Put(api.Cell{Key: strconv.Itoa(i), Value: x(i)})
	}
	w.Freeze()
	root, changes := tr.Root, w.changes()
	for i := range 200 {
		tr.Cut(strconv.Itoa(i) + "0x")
		tr.Get(strconv.Itoa(i))
	}
	is(t, "Cuts of what isn't there, and Gets", w.changes(), changes)
	is(t, "the root", tr.Root, root)
	tr.Put(api.Cell{Key: "77", Value: x(77)})
	is(t, "a Put of the same", tr.Root != root && w.changes() > changes, true)
	made, saves := w.makes, w.saves
	tr.Put(api.Cell{Key: "77", Value: "v"})
	is(t, "its own pages are written over", w.makes == made && w.saves == saves+1, true)
	is(t, "pages that aren't its own aren't saved", w.foreign, 0)
}

func TestGetLoadsTheWayAlone(t *testing.T) {
	w := watch()
	tr := tree.Over(w, 0)
	for i := range 3000 {
		tr.Put(api.Cell{Key: strconv.Itoa(i) + x(200)})
	}
	d, _ := tr.Depth()
	is(t, "several levels", d > 2, true)
	w.loads = 0
	tr.Get("1234" + x(200))
	is(t, "Get", w.loads, d)
	w.loads = 0
	tr.Depth()
	is(t, "Depth", w.loads, d)
	w.loads = 0
	tr.Cut("none")
	is(t, "Cut of nothing", w.loads, d)
}

// deep is a tree of so many levels whose branches have one kid each, and its leaf these cells.
func deep(m *tree.Memory, levels int, n node.Node) uint32 {
	id, _ := m.Make(n)
	for range levels - 1 {
		id, _ = m.Make(node.Node{Kids: []slots.Kid{{Page: id}}})
	}
	return id
}

func TestLevels(t *testing.T) {
	for levels := 1; levels <= api.MaxDepth; levels++ {
		m := tree.New()
		tr := tree.Over(m, deep(m, levels, leaf("b d f")))
		holds(t, "as made", tr, leaf("b d f").Cells...)
		m.Freeze()
		_, _, e := tr.Put(api.Cell{Key: "c", Value: "c"})
		is(t, "Put", e, api.OK)
		holds(t, "one more", tr, leaf("b c d f").Cells...)
		for _, key := range []string{"f", "b", "d", "c"} {
			c, there, e := tr.Cut(key)
			is(t, "Cut", c.Value == key && there && e == api.OK, true)
			see(t, m, tr.Root)
		}
		is(t, "all are cut", tr.Root, 0)
	}
}

func TestTooManyLevels(t *testing.T) {
	for _, levels := range []int{9, 10, 20} {
		w := watch()
		tr := tree.Over(w, deep(w.Memory, levels, leaf("b d f")))
		tooDeep(t, w, tr)
		is(t, "no more is loaded than may be", w.loads, 4*api.MaxDepth)
	}
	w := watch()
	id, _ := w.Make(leaf(""))
	w.Save(id, node.Node{Kids: []slots.Kid{{Page: id}, {Key: "m", Page: id}}})
	tooDeep(t, w, tree.Over(w, id)) // a branch that leads to itself
}

// tooDeep wants a tree to have too many levels for whatever is asked.
func tooDeep(t *testing.T, w *watched, tr *tree.Tree[*watched]) {
	t.Helper()
	root, changes := tr.Root, w.changes()
	w.loads = 0
	d, e := tr.Depth()
	is(t, "Depth", d == 0 && e == api.ErrPage, true)
	c, there, e := tr.Get("b")
	is(t, "Get", c == api.Cell{} && !there && e == api.ErrPage, true)
	c, there, e = tr.Put(api.Cell{Key: "b"})
	is(t, "Put", c == api.Cell{} && !there && e == api.ErrPage, true)
	c, there, e = tr.Cut("b")
	is(t, "Cut", c == api.Cell{} && !there && e == api.ErrPage, true)
	is(t, "nothing is changed", tr.Root == root && w.changes() == changes, true)
}

// filled is a tree of so many levels, each page on the way to its last leaf as full as long keys make it; the other ways have one kid each.
func filled(m *tree.Memory, levels int, from, prefix string) uint32 {
	if levels == 1 {
		n := node.Node{Leaf: true}
		for i := range 6 {
			n.Cells = append(n.Cells, api.Cell{Key: prefix + string(rune('b'+i)) + x(249-len(prefix)), Value: x(400)})
		}
		id, _ := m.Make(n)
		return id
	}
	b := node.Node{}
	for i := range 16 {
		key := prefix + string(rune('a'+i)) + x(249-len(prefix))
		if i == 15 {
			b.Kids = append(b.Kids, slots.Kid{Key: key, Page: filled(m, levels-1, key, prefix+"q")})
			break
		}
		first := key
		if i == 0 {
			key, first = "", max(from, "a")
		}
		b.Kids = append(b.Kids, slots.Kid{Key: key, Page: deep(m, levels-1, node.Node{Leaf: true, Cells: []api.Cell{{Key: first}}})})
	}
	id, _ := m.Make(b)
	return id
}

func TestFullWays(t *testing.T) {
	for levels := 1; levels <= api.MaxDepth; levels++ {
		w := watch()
		tr := tree.Over(w, filled(w.Memory, levels, "", ""))
		w.Freeze()
		was := see(t, w.Memory, tr.Root)
		is(t, "the levels", was.depth, levels)
		root, made, changes := tr.Root, w.makes, w.changes()
		_, _, e := tr.Put(api.Cell{Key: strings.Repeat("q", levels-1) + "e" + x(240), Value: x(400)})
		if levels == api.MaxDepth {
			is(t, "Put of a ninth level", e, api.ErrPage)
			is(t, "nothing is changed", tr.Root == root && w.changes() == changes, true)
			_, there, e := tr.Cut(strings.Repeat("q", levels-1) + "d" + x(249-levels+1))
			is(t, "Cut", there && e == api.OK, true)
			is(t, "a cell less", len(see(t, w.Memory, tr.Root).cells), len(was.cells)-1)
			continue
		}
		is(t, "Put", e, api.OK)
		now := see(t, w.Memory, tr.Root)
		is(t, "a level more", now.depth, levels+1)
		is(t, "a cell more", len(now.cells), len(was.cells)+1)
		is(t, "not too many pages", w.makes-made <= 2*(levels+2), true)
	}
}

func TestErrorsOfTheSpace(t *testing.T) {
	m := tree.New()
	for _, tr := range []*tree.Tree[*tree.Memory]{tree.Over(m, 2), tree.Over(m, 1), tree.Over(m, math.MaxUint32)} {
		_, e := tr.Depth()
		is(t, "Depth of no page", e, api.ErrPage)
		_, _, e = tr.Get("a")
		is(t, "Get of no page", e, api.ErrPage)
		_, _, e = tr.Put(api.Cell{Key: "a"})
		is(t, "Put of no page", e, api.ErrPage)
		_, _, e = tr.Cut("a")
		is(t, "Cut of no page", e, api.ErrPage)
	}
	for _, what := range []struct {
		name string
		do   func(tr *tree.Tree[*watched]) (api.Cell, bool, api.Errno)
	}{
		{"Put", func(tr *tree.Tree[*watched]) (api.Cell, bool, api.Errno) {
			return tr.Put(api.Cell{Key: "qe" + x(240), Value: x(400)})
		}},
		{"Put of what is there", func(tr *tree.Tree[*watched]) (api.Cell, bool, api.Errno) {
			return tr.Put(api.Cell{Key: "qb" + x(248), Value: ""})
		}},
		{"Cut", func(tr *tree.Tree[*watched]) (api.Cell, bool, api.Errno) { return tr.Cut("qb" + x(248)) }},
		{"Cut of a leaf's only one", func(tr *tree.Tree[*watched]) (api.Cell, bool, api.Errno) { return tr.Cut("c" + x(249)) }},
		{"Get", func(tr *tree.Tree[*watched]) (api.Cell, bool, api.Errno) { return tr.Get("qb" + x(248)) }},
		{"Depth", func(tr *tree.Tree[*watched]) (api.Cell, bool, api.Errno) {
			d, e := tr.Depth()
			return api.Cell{Long: uint32(d)}, e == api.OK, e
		}},
	} {
		for frozen := range 2 {
			failing(t, what.name, what.do, frozen == 1)
		}
	}
}

// failing wants the error of each call of the space, one after the other, to be the answer, with nothing beside it.
func failing(t *testing.T, what string, do func(*tree.Tree[*watched]) (api.Cell, bool, api.Errno), frozen bool) {
	t.Helper()
	for fails := 1; ; fails++ {
		w := watch()
		tr := tree.Over(w, filled(w.Memory, 2, "", ""))
		if frozen {
			w.Freeze()
		}
		if !fail(t, what, tr, fails, do) {
			return
		}
		if frozen {
			w.fails = 0
			is(t, what+": what was frozen stays", len(see(t, w.Memory, tr.Root).cells), 21)
		}
	}
}

// fail wants the error of that call of the space to be the answer, if there are so many calls.
func fail(t *testing.T, what string, tr *tree.Tree[*watched], fails int, do func(*tree.Tree[*watched]) (api.Cell, bool, api.Errno)) bool {
	t.Helper()
	w := tr.In
	w.calls, w.fails, w.with = 0, fails, api.Errno(100+fails)
	c, there, e := do(tr)
	if w.calls < fails {
		is(t, what+": without an error", e, api.OK)
		is(t, what+": some calls", fails > 2, true)
		return false
	}
	is(t, what+": the first error", e, w.with)
	is(t, what+": nothing beside it", c == api.Cell{} && !there, true)
	is(t, what+": nothing is asked any more", w.calls, fails)
	return true
}

// beside is a branch of a leaf of two cells and a full one beside it, ahead of it or behind it, and of as many further kids as that.
func beside(m *tree.Memory, thinFirst bool, more int) uint32 {
	thin := node.Node{Leaf: true, Cells: []api.Cell{{Key: "b", Value: x(300)}, {Key: "c", Value: x(400)}}}
	full := node.Node{Leaf: true}
	for i := range 6 {
		full.Cells = append(full.Cells, api.Cell{Key: string(rune('n'+i)) + x(249), Value: x(400)})
	}
	n := node.Node{Kids: []slots.Kid{{}, {Key: "m"}}}
	if !thinFirst {
		for i := range thin.Cells {
			thin.Cells[i].Key = "t" + thin.Cells[i].Key
		}
		thin, full = full, thin
		n.Kids[1].Key = "t"
	}
	n.Kids[0].Page, _ = m.Make(thin)
	n.Kids[1].Page, _ = m.Make(full)
	for i := range more {
		key := "z" + string(rune('a'+i)) + x(245)
		id, _ := m.Make(node.Node{Leaf: true, Cells: []api.Cell{{Key: key}}})
		n.Kids = append(n.Kids, slots.Kid{Key: key, Page: id})
	}
	id, _ := m.Make(n)
	return id
}

// What is thin takes from what is beside it, if both don't fit into one page; but where the key between would be too long for the branch, it stays as it is.
func TestThinOnes(t *testing.T) {
	for _, w := range []struct {
		first bool
		more  int
		key   string
		made  int // of a tree that is frozen
	}{{true, 0, "c", 3}, {false, 0, "tc", 3}, {true, 14, "c", 3}, {true, 15, "c", 2}} {
		own, frozen := watch(), watch()
		for _, s := range []*watched{own, frozen} {
			tr := tree.Over(s, beside(s.Memory, w.first, w.more))
			if s == frozen {
				s.Freeze()
			}
			made, cells := s.makes, len(see(t, s.Memory, tr.Root).cells)
			_, there, e := tr.Cut(w.key)
			is(t, "Cut", there && e == api.OK, true)
			now := see(t, s.Memory, tr.Root)
			is(t, "a cell less", len(now.cells), cells-1)
			is(t, "as deep", now.depth, 2)
			if s == frozen {
				is(t, "pages made", s.makes-made, w.made)
			} else {
				is(t, "no page is made", s.makes, made)
			}
		}
	}
	for fails := 1; ; fails++ {
		w := watch()
		tr := tree.Over(w, beside(w.Memory, true, 0))
		w.Freeze()
		if !fail(t, "Cut of what takes from beside", tr, fails, func(tr *tree.Tree[*watched]) (api.Cell, bool, api.Errno) { return tr.Cut("c") }) {
			return
		}
	}
}

// broken panics, whatever it is asked.
type broken struct{}

func (broken) Load(uint32) (node.Node, api.Errno) { panic("load") }
func (broken) Own(uint32) bool                    { panic("own") }
func (broken) Make(node.Node) (uint32, api.Errno) { panic("make") }
func (broken) Save(uint32, node.Node) api.Errno   { panic("save") }
func (broken) Drop(uint32) api.Errno              { panic("drop") }

// bare answers a branch without kids of each page.
type bare struct{ *tree.Memory }

func (bare) Load(uint32) (node.Node, api.Errno) { return node.Node{}, api.OK }

func TestNothingPanics(t *testing.T) {
	var none *tree.Tree[*tree.Memory]
	_, e := none.Depth()
	is(t, "Depth of nil", e, api.ErrNil)
	c, there, e := none.Get("a")
	is(t, "Get of nil", c == api.Cell{} && !there && e == api.ErrNil, true)
	c, there, e = none.Put(api.Cell{Key: "a"})
	is(t, "Put of nil", c == api.Cell{} && !there && e == api.ErrNil, true)
	_, _, e = none.Put(api.Cell{Key: x(256)})
	is(t, "Put of what is too long", e, api.ErrNil)
	c, there, e = none.Cut("a")
	is(t, "Cut of nil", c == api.Cell{} && !there && e == api.ErrNil, true)
	for _, root := range []uint32{0, 2} {
		unusable(t, "a nil space in memory", tree.Over[*tree.Memory](nil, root), api.ErrNil)
		unusable(t, "a space that panics", tree.Over(broken{}, root), api.ErrArg)
		unusable(t, "no space", tree.Over[tree.Space](nil, root), api.ErrArg)
	}
	unusable(t, "a branch without kids", tree.Over(bare{tree.New()}, 2), api.ErrForm)
}

// unusable wants a tree to answer that error wherever its space is asked.
func unusable[S tree.Space](t *testing.T, what string, tr *tree.Tree[S], want api.Errno) {
	t.Helper()
	root := tr.Root
	_, _, e := tr.Put(api.Cell{Key: "a"})
	is(t, what+": Put", e, want)
	is(t, what+": the root", tr.Root, root)
	if root == 0 {
		return
	}
	_, e = tr.Depth()
	is(t, what+": Depth", e, want)
	_, _, e = tr.Get("a")
	is(t, what+": Get", e, want)
	_, _, e = tr.Cut("a")
	is(t, what+": Cut", e, want)
}
