package node_test

import (
	"math"
	"math/rand/v2"
	"slices"
	"strconv"
	"strings"
	"testing"

	"taproot/api"
	"taproot/node"
	"taproot/page"
	"taproot/slots"
)

func is[T comparable](t *testing.T, what string, got, want T) {
	t.Helper()
	if got != want {
		t.Errorf("%s: %v, wanted %v", what, got, want)
	}
}

// x is a text of so many bytes.
func x(n int) string { return strings.Repeat("x", n) }

// leaf is one of these cells, with a kid that counts nothing.
func leaf(cells ...api.Cell) node.Node {
	return node.Node{Leaf: true, Cells: cells, Kids: []slots.Kid{{Key: "none", Page: 1}}}
}

// branch is one of these kids, with a cell that counts nothing.
func branch(kids ...slots.Kid) node.Node {
	return node.Node{Kids: kids, Cells: []api.Cell{{Key: "none", Value: x(5000)}}}
}

// keys are a leaf's cells of the keys that these words are, each with its own as the value.
func keys(words string) node.Node {
	var cells []api.Cell
	for _, w := range strings.Fields(words) {
		cells = append(cells, api.Cell{Key: w, Value: w})
	}
	return leaf(cells...)
}

// kids are a branch's of the keys that these words are, behind an empty one; their pages are 2, 3 and so on.
func kids(words string) node.Node {
	l := []slots.Kid{{Page: 2}}
	for i, w := range strings.Fields(words) {
		l = append(l, slots.Kid{Key: w, Page: uint32(i + 3)})
	}
	return branch(l...)
}

// nodes wants a node of that sort, with just what counts of it.
func nodes(t *testing.T, what string, got, want node.Node) {
	t.Helper()
	is(t, what+": a leaf", got.Leaf, want.Leaf)
	cells, kids := want.Cells, want.Kids
	if want.Leaf {
		kids = nil
	} else {
		cells = nil
	}
	if !slices.Equal(got.Cells, cells) || !slices.Equal(got.Kids, kids) {
		t.Errorf("%s: %v %v, wanted %v %v", what, got.Cells, got.Kids, cells, kids)
	}
}

// stays wants what is done to a node neither to change it nor to share anything with it.
func stays(t *testing.T, what string, n node.Node, do func(node.Node) []node.Node) {
	t.Helper()
	was := node.Node{Leaf: n.Leaf, Cells: slices.Clone(n.Cells), Kids: slices.Clone(n.Kids)}
	spare := node.Node{Leaf: n.Leaf, Cells: append(n.Cells, api.Cell{Key: "spare"})[:len(n.Cells)], Kids: append(n.Kids, slots.Kid{Key: "spare"})[:len(n.Kids)]}
	for _, got := range do(spare) {
		for i := range got.Cells {
			got.Cells[i] = api.Cell{Key: "other"}
		}
		for i := range got.Kids {
			got.Kids[i] = slots.Kid{Key: "other"}
		}
		_ = append(got.Cells, api.Cell{Key: "more"})
		_ = append(got.Kids, slots.Kid{Key: "more"})
	}
	is(t, what+": its cells stay", slices.Equal(spare.Cells, was.Cells), true)
	is(t, what+": its kids stay", slices.Equal(spare.Kids, was.Kids), true)
	is(t, what+": its cells' spare room", spare.Cells[:len(was.Cells)+1][len(was.Cells)].Key, "spare")
	is(t, what+": its kids' spare room", spare.Kids[:len(was.Kids)+1][len(was.Kids)].Key, "spare")
}

func TestSizes(t *testing.T) {
	for _, w := range []struct {
		what string
		n    node.Node
		want int
	}{
		{"the zero one", node.Node{}, 0},
		{"an empty leaf", leaf(), 0},
		{"an empty branch", branch(), 0},
		{"a leaf", leaf(api.Cell{Key: "a", Value: "hi"}), 9},
		{"a chained cell", leaf(api.Cell{Key: "a", Chain: 7, Long: 70000}), 13},
		{"a branch", branch(slots.Kid{}, slots.Kid{Key: "ab"}), 16},
		{"a leaf of several", keys("a b cc"), 8 + 8 + 10},
		{"thin yet", leaf(api.Cell{Key: x(255), Value: x(400)}, api.Cell{Key: "y", Value: x(349)}), 1017},
		{"a quarter", leaf(api.Cell{Key: x(255), Value: x(400)}, api.Cell{Key: "y", Value: x(350)}), 1018},
		{"the room", leaf(api.Cell{Key: "a", Value: x(4072 - 7)}), 4072},
		{"a byte more", leaf(api.Cell{Key: "a", Value: x(4073 - 7)}), 4073},
		{"far more", leaf(api.Cell{Key: "a", Value: x(65535)}), 65542},
	} {
		is(t, w.what+": Size", w.n.Size(), w.want)
		is(t, w.what+": Fits", w.n.Fits(), w.want <= 4072)
		is(t, w.what+": Thin", w.n.Thin(), w.want < 1018)
	}
	thin := branch(slots.Kid{})
	for i := range 1011 / 7 {
		thin.Kids = append(thin.Kids, slots.Kid{Page: uint32(i)})
	}
	is(t, "a branch's Size", thin.Size(), 1015)
	is(t, "Thin", thin.Thin(), true)
	thin.Kids[0].Key = "xx"
	is(t, "thin yet", thin.Thin(), true)
	thin.Kids[0].Key = "xxx"
	is(t, "a quarter", thin.Thin(), false)
}

func TestFramesOfLeaves(t *testing.T) {
	f, e := leaf(api.Cell{Key: "a", Value: "hi"}, api.Cell{Key: "b", Chain: 3, Long: 4}).Frame(7, 9)
	is(t, "Frame", e, api.OK)
	is(t, "the frame", f, page.Frame{Kind: page.Leaf, Count: 2, ID: 7, Tx: 9, Body: "\x00\x04\x00\x0b\x01a\x00\x00\x02hi\x01b\x01\x00\x00\x00\x03\x00\x00\x00\x04"})
	f, e = leaf().Frame(0, math.MaxUint64)
	is(t, "of an empty one", e, api.OK)
	is(t, "the frame", f, page.Frame{Kind: page.Leaf, Tx: math.MaxUint64})
	many := leaf()
	for i := range 452 { // 9 bytes each: 4068
		many.Cells = append(many.Cells, api.Cell{Key: string([]byte{'a', byte(i / 256), byte(i)})})
	}
	f, e = many.Frame(math.MaxUint32, 0)
	is(t, "of many", e, api.OK)
	is(t, "how many", f.Count, 452)
}

func TestFramesOfBranches(t *testing.T) {
	f, e := branch(slots.Kid{Page: 5}, slots.Kid{Key: "b", Page: 2}, slots.Kid{Key: "c", Page: math.MaxUint32}).Frame(7, 9)
	is(t, "Frame", e, api.OK)
	is(t, "the frame", f, page.Frame{Kind: page.Branch, Count: 3, ID: 7, Tx: 9,
		Body: "\x00\x06\x00\x0b\x00\x11\x00\x00\x00\x00\x05\x01b\x00\x00\x00\x02\x01c\xff\xff\xff\xff"})
	f, e = branch(slots.Kid{Page: 2}).Frame(1, 0)
	is(t, "of one kid", e, api.OK)
	is(t, "the frame", f, page.Frame{Kind: page.Branch, Count: 1, ID: 1, Body: "\x00\x02\x00\x00\x00\x00\x02"})
}

func TestFramesThatAreRefused(t *testing.T) {
	full := leaf()
	for i := range 453 {
		full.Cells = append(full.Cells, api.Cell{Key: string([]byte{'a', byte(i / 256), byte(i)})})
	}
	for _, w := range []struct {
		what string
		n    node.Node
		want api.Errno
	}{
		{"a long key", leaf(api.Cell{Key: x(256)}), api.ErrLong},
		{"a long value", leaf(api.Cell{Key: "a", Value: x(401)}), api.ErrLong},
		{"a chained one with bytes", leaf(api.Cell{Key: "a", Value: "b", Chain: 3}), api.ErrLong},
		{"keys that fall", keys("b a"), api.ErrOrder},
		{"keys that stay", keys("a a"), api.ErrOrder},
		{"too much", full, api.ErrFull},
		{"no kids", branch(), api.ErrForm},
		{"the zero one", node.Node{}, api.ErrForm},
		{"a first key", branch(slots.Kid{Key: "a", Page: 2}), api.ErrForm},
		{"page 1", branch(slots.Kid{Page: 1}), api.ErrForm},
		{"page 0 last", branch(slots.Kid{Page: 2}, slots.Kid{Key: "a", Page: 3}, slots.Kid{Key: "b"}), api.ErrForm},
		{"a kid's long key", branch(slots.Kid{Page: 2}, slots.Kid{Key: x(256), Page: 3}), api.ErrLong},
		{"kids' keys that fall", kids("b a"), api.ErrOrder},
		{"kids' keys that stay", branch(slots.Kid{Page: 2}, slots.Kid{Page: 3}), api.ErrOrder},
		{"too many kids", kids(strings.Join(wide(16), " ")), api.ErrFull},
		{"a page goes ahead of a long key", branch(slots.Kid{Page: 2}, slots.Kid{Key: x(256), Page: 1}), api.ErrForm},
		{"a first key ahead of the order", branch(slots.Kid{Key: "b", Page: 2}, slots.Kid{Key: "a", Page: 2}), api.ErrForm},
	} {
		f, e := w.n.Frame(7, 9)
		is(t, w.what, e, w.want)
		is(t, w.what+": beside the error", f, page.Frame{})
	}
	_, e := kids(strings.Join(wide(15), " ")).Frame(7, 9)
	is(t, "as many kids as go", e, api.OK)
}

// wide are n keys of 255 bytes, rising.
func wide(n int) []string {
	l := make([]string, n)
	for i := range l {
		l[i] = string(rune('A'+i)) + x(254)
	}
	return l
}

func TestNodesOfFrames(t *testing.T) {
	for _, want := range []node.Node{leaf(), keys("a"), keys("a b cc d"), leaf(api.Cell{}, api.Cell{Key: "a", Chain: 7, Long: 5000}), kids(""), kids("a b c")} {
		f, e := want.Frame(7, 9)
		is(t, "Frame", e, api.OK)
		for _, tx := range []uint64{9, 0} {
			f.Tx, f.ID = tx, uint32(tx)
			n, e := node.Of(f)
			is(t, "Of", e, api.OK)
			nodes(t, "the node", n, want)
		}
	}
}

func TestFramesOfNoNode(t *testing.T) {
	good, _ := keys("a b").Frame(7, 9)
	way, _ := kids("b").Frame(7, 9)
	noBranch := func(l ...slots.Kid) page.Frame {
		body, e := slots.Kids().Body(l)
		is(t, "Body", e, api.OK)
		return page.Frame{Kind: page.Branch, Count: uint16(len(l)), Body: body}
	}
	of := func(f page.Frame, do func(*page.Frame)) page.Frame { do(&f); return f }
	for _, w := range []struct {
		what string
		f    page.Frame
		want api.Errno
	}{
		{"the zero one", page.Frame{}, api.ErrKind},
		{"a root's", of(good, func(f *page.Frame) { f.Kind = page.Meta }), api.ErrKind},
		{"a chain's", of(good, func(f *page.Frame) { f.Kind = page.Chain }), api.ErrKind},
		{"a free one", of(good, func(f *page.Frame) { f.Kind = page.Free }), api.ErrKind},
		{"none at all", of(good, func(f *page.Frame) { f.Kind, f.Body = 6, "?" }), api.ErrKind},
		{"a leaf as a branch", of(good, func(f *page.Frame) { f.Kind = page.Branch }), api.ErrForm},
		{"a branch as a leaf", of(way, func(f *page.Frame) { f.Kind = page.Leaf }), api.ErrForm},
		{"a cell too few", of(good, func(f *page.Frame) { f.Count = 1 }), api.ErrForm},
		{"a cell too many", of(good, func(f *page.Frame) { f.Count = 3 }), api.ErrForm},
		{"a byte too many", of(good, func(f *page.Frame) { f.Body += "x" }), api.ErrForm},
		{"a kid too few", of(way, func(f *page.Frame) { f.Count = 1 }), api.ErrForm},
		{"keys that fall", of(good, func(f *page.Frame) { f.Body = strings.Replace(f.Body, "\x01a", "\x01c", 1) }), api.ErrOrder},
		{"a long value", page.Frame{Kind: page.Leaf, Count: 1, Body: "\x00\x02\x00\x00\x01\x91" + x(401)}, api.ErrLong},
		{"no kids", page.Frame{Kind: page.Branch}, api.ErrForm},
		{"a first key", noBranch(slots.Kid{Key: "a", Page: 2}), api.ErrForm},
		{"page 1", noBranch(slots.Kid{Page: 1}), api.ErrForm},
		{"page 0 last", noBranch(slots.Kid{Page: 2}, slots.Kid{Key: "a", Page: 0}), api.ErrForm},
		{"the order goes ahead of a first key", page.Frame{Kind: page.Branch, Count: 2, Body: "\x00\x04\x00\x0a\x01b\x00\x00\x00\x02\x01a\x00\x00\x00\x02"}, api.ErrOrder},
		{"and of a page", page.Frame{Kind: page.Branch, Count: 2, Body: "\x00\x04\x00\x09\x00\x00\x00\x00\x01\x00\x00\x00\x00\x02"}, api.ErrOrder},
	} {
		n, e := node.Of(w.f)
		is(t, w.what, e, w.want)
		nodes(t, w.what+": beside the error", n, node.Node{})
	}
}

func TestSame(t *testing.T) {
	all := []node.Node{leaf(), keys("a"), keys("a b"), keys("a c"), leaf(api.Cell{Key: "a", Value: "b"}, api.Cell{Key: "b", Value: "b"}), leaf(api.Cell{Key: "a", Chain: 2}), leaf(api.Cell{Key: "a", Chain: 3}), leaf(api.Cell{Key: "a", Chain: 2, Long: 1}),
		branch(), kids(""), kids("a"), kids("b"), kids("a b"), branch(slots.Kid{Page: 3})}
	for i, a := range all {
		for j, b := range all {
			other := node.Node{Leaf: b.Leaf, Cells: slices.Clone(b.Cells), Kids: slices.Clone(b.Kids)}
			if b.Leaf {
				other.Kids = append(other.Kids, slots.Kid{Key: "counts nothing"})
			} else {
				other.Cells = nil
			}
			is(t, "Same of "+strconv.Itoa(i)+" and "+strconv.Itoa(j), node.Same(a, other), i == j)
		}
	}
	is(t, "a list without elements", node.Same(node.Node{Leaf: true, Cells: []api.Cell{}}, node.Node{Leaf: true}), true)
	is(t, "of kids", node.Same(node.Node{Kids: []slots.Kid{}}, node.Node{}), true)
}

func TestRoute(t *testing.T) {
	n := kids("b d dd")
	for key, want := range map[string]int{"": 0, "a": 0, "az": 0, "b": 1, "b\x00": 1, "c": 1, "czz": 1, "d": 2, "da": 2, "dc\xff": 2, "dd": 3, "dda": 3, "e": 3, "\xff": 3} {
		is(t, "Route of "+strconv.Quote(key), n.Route(key), want)
	}
	is(t, "of one kid", kids("").Route("a"), 0)
	is(t, "of none", branch().Route("a"), 0)
	is(t, "below all", branch(slots.Kid{Key: "m"}, slots.Kid{Key: "n"}).Route("a"), 0)
	is(t, "of a leaf", keys("a b c").Route("c"), 0)
	odd := node.Node{Leaf: true, Kids: []slots.Kid{{}, {Key: "b"}}}
	is(t, "a leaf's kids count nothing", odd.Route("c"), 0)
}

func TestPut(t *testing.T) {
	c := api.Cell{Key: "b", Value: "new"}
	at := func(l ...api.Cell) node.Node { return leaf(l...) }
	a, d := api.Cell{Key: "a", Value: "1"}, api.Cell{Key: "d", Chain: 5, Long: 500}
	nodes(t, "into an empty one", leaf().Put(c), at(c))
	nodes(t, "first", at(d).Put(c), at(c, d))
	nodes(t, "last", at(a).Put(c), at(a, c))
	nodes(t, "between", at(a, d).Put(c), at(a, c, d))
	nodes(t, "instead of one", at(a, api.Cell{Key: "b", Chain: 9, Long: 9}, d).Put(c), at(a, c, d))
	nodes(t, "instead of the first", at(c, d).Put(api.Cell{Key: "b", Chain: 7}), at(api.Cell{Key: "b", Chain: 7}, d))
	nodes(t, "instead of the last", at(a, c).Put(api.Cell{Key: "b"}), at(a, api.Cell{Key: "b"}))
	nodes(t, "the empty key", at(a).Put(api.Cell{Value: "x"}), at(api.Cell{Value: "x"}, a))
	nodes(t, "what doesn't fit", at(a).Put(api.Cell{Key: x(300), Value: x(5000)}), at(a, api.Cell{Key: x(300), Value: x(5000)}))
	nodes(t, "of a branch", kids("a b").Put(c), kids("a b"))
	for _, n := range []node.Node{at(a, d), at(a, c, d), leaf(), kids("a b")} {
		stays(t, "Put", n, func(n node.Node) []node.Node { return []node.Node{n.Put(c)} })
	}
}

func TestCut(t *testing.T) {
	n := keys("a b c")
	for _, w := range []struct{ key, left string }{{"a", "b c"}, {"b", "a c"}, {"c", "a b"}} {
		got, c, ok := n.Cut(w.key)
		is(t, "Cut of "+w.key, ok, true)
		is(t, "the cell", c, api.Cell{Key: w.key, Value: w.key})
		nodes(t, "what is left", got, keys(w.left))
	}
	for _, key := range []string{"", "A", "aa", "bb", "d"} {
		got, c, ok := n.Cut(key)
		is(t, "Cut of "+key, ok, false)
		is(t, "no cell", c, api.Cell{})
		nodes(t, "the same", got, n)
	}
	got, c, ok := keys("a").Cut("a")
	is(t, "the only one", ok, true)
	is(t, "the cell", c, api.Cell{Key: "a", Value: "a"})
	nodes(t, "nothing is left", got, leaf())
	_, _, ok = leaf().Cut("")
	is(t, "of an empty one", ok, false)
	odd := kids("a b")
	odd.Cells = keys("a b").Cells
	got, c, ok = odd.Cut("a")
	is(t, "of a branch", ok, false)
	is(t, "no cell", c, api.Cell{})
	nodes(t, "the same", got, odd)
	for _, key := range []string{"a", "b", "c", "d"} {
		for _, n := range []node.Node{n, odd} {
			stays(t, "Cut of "+key, n, func(n node.Node) []node.Node { got, _, _ := n.Cut(key); return []node.Node{got} })
		}
	}
}

func TestTurn(t *testing.T) {
	n := branch(slots.Kid{Page: 2}, slots.Kid{Key: "b", Page: 3}, slots.Kid{Key: "c", Page: 4})
	nodes(t, "the first", n.Turn(0, 9), branch(slots.Kid{Page: 9}, slots.Kid{Key: "b", Page: 3}, slots.Kid{Key: "c", Page: 4}))
	nodes(t, "the second", n.Turn(1, 0), branch(slots.Kid{Page: 2}, slots.Kid{Key: "b"}, slots.Kid{Key: "c", Page: 4}))
	nodes(t, "the last", n.Turn(2, math.MaxUint32), branch(slots.Kid{Page: 2}, slots.Kid{Key: "b", Page: 3}, slots.Kid{Key: "c", Page: math.MaxUint32}))
	for _, at := range []int{-1, 3, 4, math.MinInt, math.MaxInt} {
		nodes(t, "where there is none", n.Turn(at, 9), n)
	}
	nodes(t, "of none", branch().Turn(0, 9), branch())
	nodes(t, "of a leaf", keys("a b").Turn(0, 9), keys("a b"))
	for _, n := range []node.Node{n, keys("a b")} {
		for _, at := range []int{0, 2, 3} {
			stays(t, "Turn", n, func(n node.Node) []node.Node { return []node.Node{n.Turn(at, 9)} })
		}
	}
}

func TestInsert(t *testing.T) {
	k := slots.Kid{Key: "b", Page: 9}
	a, d := slots.Kid{Page: 2}, slots.Kid{Key: "d", Page: 4}
	nodes(t, "into an empty one", branch().Insert(k), branch(k))
	nodes(t, "between", branch(a, d).Insert(k), branch(a, k, d))
	nodes(t, "last", branch(a).Insert(k), branch(a, k))
	nodes(t, "first", branch(d).Insert(k), branch(k, d))
	nodes(t, "instead of one", branch(a, slots.Kid{Key: "b", Page: 7}, d).Insert(k), branch(a, k, d))
	nodes(t, "instead of the first", branch(a, d).Insert(slots.Kid{Page: 9}), branch(slots.Kid{Page: 9}, d))
	nodes(t, "of a leaf", keys("a c").Insert(k), keys("a c"))
	for _, n := range []node.Node{branch(a, d), branch(a, k, d), branch(), keys("a c")} {
		stays(t, "Insert", n, func(n node.Node) []node.Node { return []node.Node{n.Insert(k)} })
	}
}

func TestRemove(t *testing.T) {
	a, b, c := slots.Kid{Page: 2}, slots.Kid{Key: "b", Page: 3}, slots.Kid{Key: "c", Page: 4}
	nodes(t, "the first", branch(a, b, c).Remove(0), branch(slots.Kid{Page: 3}, c))
	nodes(t, "the second", branch(a, b, c).Remove(1), branch(a, c))
	nodes(t, "the last", branch(a, b, c).Remove(2), branch(a, b))
	nodes(t, "the only one", branch(a).Remove(0), branch())
	for _, at := range []int{-1, 3, math.MinInt, math.MaxInt} {
		nodes(t, "where there is none", branch(a, b, c).Remove(at), branch(a, b, c))
	}
	nodes(t, "of none", branch().Remove(0), branch())
	odd := keys("a b")
	odd.Kids = []slots.Kid{a, b, c}
	nodes(t, "of a leaf", odd.Remove(0), keys("a b"))
	for _, n := range []node.Node{branch(a, b, c), odd} {
		for _, at := range []int{0, 1, 2, 3} {
			stays(t, "Remove", n, func(n node.Node) []node.Node { return []node.Node{n.Remove(at)} })
		}
	}
}

// splits wants the two parts of a node and the key between, which are the node again when they are joined.
func splits(t *testing.T, what string, n node.Node, first node.Node, key string, rest node.Node) {
	t.Helper()
	a, got, b := n.Split()
	nodes(t, what+": the first", a, first)
	is(t, what+": the key", got, key)
	nodes(t, what+": the rest", b, rest)
	nodes(t, what+": joined again", node.Join(a, got, b), n)
	stays(t, what, n, func(n node.Node) []node.Node { a, _, b := n.Split(); return []node.Node{a, b} })
}

func TestSplitsOfLeaves(t *testing.T) {
	of := func(key string, long int) api.Cell { return api.Cell{Key: key, Value: x(long)} }
	a, b, c, d := of("a", 13), of("b", 13), of("c", 13), of("d", 13)
	splits(t, "the example", keys("a b"), keys("a"), "b", keys("b"))
	splits(t, "a little and much", leaf(of("a", 0), of("b", 400)), leaf(of("a", 0)), "b", leaf(of("b", 400)))
	splits(t, "much and a little", leaf(of("a", 400), of("b", 0)), leaf(of("a", 400)), "b", leaf(of("b", 0)))
	splits(t, "four alike", leaf(a, b, c, d), leaf(a, b), "c", leaf(c, d))
	splits(t, "three alike: the first such", leaf(a, b, c), leaf(a), "b", leaf(b, c))
	splits(t, "much first", leaf(of("a", 200), b, c, d), leaf(of("a", 200)), "b", leaf(b, c, d))
	splits(t, "much last", leaf(a, b, c, of("d", 200)), leaf(a, b, c), "d", leaf(of("d", 200)))
	splits(t, "much between", leaf(a, b, of("c", 200), d), leaf(a, b), "c", leaf(of("c", 200), d))
	splits(t, "a byte decides for the first", leaf(of("a", 14), b, of("c", 13)), leaf(of("a", 14)), "b", leaf(b, of("c", 13)))
	splits(t, "a byte decides for the second", leaf(of("a", 13), b, of("c", 14)), leaf(of("a", 13), b), "c", leaf(of("c", 14)))
	splits(t, "keys count", leaf(of("a", 0), of("b"+x(100), 0), of("c", 99)), leaf(of("a", 0), of("b"+x(100), 0)), "c", leaf(of("c", 99)))
	splits(t, "a chained one takes its cell alone", leaf(a, b, api.Cell{Key: "c", Chain: 9, Long: 60000}), leaf(a), "b", leaf(b, api.Cell{Key: "c", Chain: 9, Long: 60000}))
	splits(t, "of one", keys("a"), keys("a"), "", leaf())
	splits(t, "of none", leaf(), leaf(), "", leaf())
}

func TestSplitsOfBranches(t *testing.T) {
	of := func(key string, at uint32) slots.Kid { return slots.Kid{Key: key, Page: at} }
	splits(t, "two", branch(of("", 5), of("b", 6)), branch(of("", 5)), "b", branch(of("", 6)))
	splits(t, "three", branch(of("", 5), of("b", 6), of("c", 7)), branch(of("", 5), of("b", 6)), "c", branch(of("", 7)))
	splits(t, "four", branch(of("", 5), of("b", 6), of("c", 7), of("d", 8)), branch(of("", 5), of("b", 6)), "c", branch(of("", 7), of("d", 8)))
	long := "b" + x(50) // counts in the second one, though it is empty there
	splits(t, "a key counts", branch(of("", 5), of(long, 6), of("c", 7)), branch(of("", 5), of(long, 6)), "c", branch(of("", 7)))
	long = "c" + x(50)
	splits(t, "the last one's", branch(of("", 5), of("b", 6), of(long, 7)), branch(of("", 5), of("b", 6)), long, branch(of("", 7)))
	splits(t, "a first key stays", branch(of("a", 5), of("b", 6)), branch(of("a", 5)), "b", branch(of("", 6)))
	splits(t, "of one", branch(of("", 5)), branch(of("", 5)), "", branch())
	splits(t, "of one with a key", branch(of("a", 5)), branch(of("a", 5)), "", branch())
	splits(t, "of none", branch(), branch(), "", branch())
}

func TestJoin(t *testing.T) {
	nodes(t, "leaves", node.Join(keys("a b"), "c", keys("d e")), keys("a b d e"))
	nodes(t, "nothing and a leaf", node.Join(leaf(), "", keys("d e")), keys("d e"))
	nodes(t, "a leaf and nothing", node.Join(keys("a b"), "c", leaf()), keys("a b"))
	one, other := branch(slots.Kid{Page: 5}, slots.Kid{Key: "b", Page: 6}), branch(slots.Kid{Page: 7}, slots.Kid{Key: "e", Page: 8})
	nodes(t, "branches", node.Join(one, "c", other), branch(slots.Kid{Page: 5}, slots.Kid{Key: "b", Page: 6}, slots.Kid{Key: "c", Page: 7}, slots.Kid{Key: "e", Page: 8}))
	nodes(t, "another first key", node.Join(one, "c", branch(slots.Kid{Key: "d", Page: 7})), branch(slots.Kid{Page: 5}, slots.Kid{Key: "b", Page: 6}, slots.Kid{Key: "c", Page: 7}))
	nodes(t, "a branch and nothing", node.Join(one, "c", branch()), one)
	nodes(t, "nothing and a branch", node.Join(branch(), "c", other), branch(slots.Kid{Key: "c", Page: 7}, slots.Kid{Key: "e", Page: 8}))
	nodes(t, "a leaf and a branch", node.Join(keys("a b"), "c", node.Node{Kids: other.Kids}), keys("a b"))
	nodes(t, "a branch and a leaf", node.Join(one, "c", node.Node{Leaf: true, Cells: keys("d").Cells}), one)
	for _, n := range []node.Node{keys("a b"), one} {
		stays(t, "Join's first", n, func(n node.Node) []node.Node {
			return []node.Node{node.Join(n, "c", node.Node{Leaf: n.Leaf}), node.Join(n, "c", other)}
		})
		stays(t, "Join's second", n, func(n node.Node) []node.Node {
			return []node.Node{node.Join(node.Node{Leaf: n.Leaf}, "c", n), node.Join(one, "c", n)}
		})
	}
}

// some is a leaf's cell by chance.
func some(chance *rand.Rand) api.Cell {
	c := api.Cell{Key: strings.Repeat(string(rune('a'+chance.IntN(26))), 1+chance.IntN(30)) + strconv.Itoa(chance.IntN(50))}
	if chance.IntN(4) == 0 {
		c.Chain, c.Long = 2+chance.Uint32N(100), 401+chance.Uint32N(9000)
	} else {
		c.Value = x(chance.IntN(401))
	}
	return c
}

func TestWhatWasPutIsThereAndWhatWasCutIsnt(t *testing.T) {
	chance := rand.New(rand.NewPCG(10, 2))
	n, model := leaf(), map[string]api.Cell{}
	for range 5000 {
		c := some(chance)
		if chance.IntN(2) == 0 || len(model) > 40 {
			if len(n.Cells) > 0 && chance.IntN(4) > 0 {
				c.Key = n.Cells[chance.IntN(len(n.Cells))].Key
			}
			was, there := model[c.Key]
			var got api.Cell
			var ok bool
			n, got, ok = n.Cut(c.Key)
			is(t, "Cut", ok, there)
			is(t, "the cell", got, was)
			delete(model, c.Key)
		} else {
			n = n.Put(c)
			model[c.Key] = c
		}
		is(t, "how many", len(n.Cells), len(model))
		for i, c := range n.Cells {
			is(t, "a cell", c, model[c.Key])
			is(t, "rising", i == 0 || n.Cells[i-1].Key < c.Key, true)
		}
		is(t, "Size", n.Size(), slots.Leaves().Sum(n.Cells))
		if n.Fits() {
			f, e := n.Frame(2, 3)
			is(t, "Frame", e, api.OK)
			again, e := node.Of(f)
			is(t, "Of", e, api.OK)
			is(t, "the same", node.Same(n, again), true)
		}
	}
}

// bestCut is where two parts' sizes differ least.
func bestCut(sizes []int) int {
	best, least := 0, math.MaxInt
	for i := 1; i < len(sizes); i++ {
		differ := 0
		for j, size := range sizes {
			if j < i {
				differ += size
			} else {
				differ -= size
			}
		}
		if differ = max(differ, -differ); differ < least {
			best, least = i, differ
		}
	}
	return best
}

func TestSplitsByChance(t *testing.T) {
	chance := rand.New(rand.NewPCG(10, 3))
	for range 2000 {
		n := leaf()
		for range 2 + chance.IntN(20) {
			n = n.Put(some(chance))
		}
		var sizes []int
		for _, c := range n.Cells {
			sizes = append(sizes, slots.Leaves().Size(c))
		}
		if len(sizes) < 2 {
			continue
		}
		at := bestCut(sizes)
		splits(t, "a leaf", leaf(n.Cells...), leaf(n.Cells[:at]...), n.Cells[at].Key, leaf(n.Cells[at:]...))
		way := branch(slots.Kid{Page: 2})
		for range 1 + chance.IntN(20) {
			way = way.Insert(slots.Kid{Key: some(chance).Key, Page: chance.Uint32()})
		}
		sizes = nil
		for _, k := range way.Kids {
			sizes = append(sizes, slots.Kids().Size(k))
		}
		at = bestCut(sizes)
		rest := slices.Clone(way.Kids[at:])
		rest[0].Key = ""
		splits(t, "a branch", branch(way.Kids...), branch(way.Kids[:at]...), way.Kids[at].Key, branch(rest...))
	}
}

func TestRoutesByChance(t *testing.T) {
	chance := rand.New(rand.NewPCG(10, 4))
	for range 500 {
		way := branch(slots.Kid{Page: 2})
		for range chance.IntN(20) {
			way = way.Insert(slots.Kid{Key: some(chance).Key, Page: 3})
		}
		for range 20 {
			key, want := some(chance).Key, 0
			for i, k := range way.Kids {
				if k.Key <= key {
					want = i
				}
			}
			is(t, "Route", way.Route(key), want)
		}
	}
}
