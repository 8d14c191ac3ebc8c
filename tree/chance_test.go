package tree_test

import (
	"maps"
	"math/rand/v2"
	"slices"
	"strings"
	"testing"

	"taproot/api"
	"taproot/node"
	"taproot/page"
	"taproot/slots"
	"taproot/tree"
)

// shape is how long things of a tree by chance are, and how often its pages are frozen.
type shape struct {
	what       string
	key, value int // bytes, at most
	frozen     int // of a hundred changes
}

func shapes() []shape {
	return []shape{
		{"short ones", 3, 8, 0},
		{"short ones, often frozen", 3, 8, 30},
		{"long keys", 255, 4, 10},
		{"long keys, always frozen", 255, 4, 100},
		{"long values", 20, 400, 50},
		{"all sorts", 255, 400, 5},
	}
}

// model is a tree held against a sorted list.
type model struct {
	t     *testing.T
	r     *rand.Rand
	s     shape
	w     *watched
	tr    *tree.Tree[*watched]
	cells []api.Cell
	old   []snapshot
}

// snapshot is what a tree was when it was frozen.
type snapshot struct {
	root  uint32
	cells []api.Cell
}

func start(t *testing.T, s shape, seed uint64) *model {
	w := watch()
	return &model{t: t, r: rand.New(rand.NewPCG(seed, 7)), s: s, w: w, tr: tree.Over(w, 0)}
}

// find is where a key's cell is in the list, or would be, it, and whether it is there.
func (m *model) find(key string) (int, api.Cell, bool) {
	at, there := slices.BinarySearchFunc(m.cells, key, func(c api.Cell, key string) int { return strings.Compare(c.Key, key) })
	if !there {
		return at, api.Cell{}, false
	}
	return at, m.cells[at], true
}

// add adds a cell to the list, or puts it instead of another one.
func (m *model) add(c api.Cell) {
	at, _, there := m.find(c.Key)
	if there {
		m.cells[at] = c
		return
	}
	m.cells = slices.Insert(m.cells, at, c)
}

// key is one by chance: one that is there, or a new one, which often begins like others.
func (m *model) key() string {
	if len(m.cells) > 0 && m.r.IntN(3) == 0 {
		return m.cells[m.r.IntN(len(m.cells))].Key
	}
	b := make([]byte, m.r.IntN(m.s.key+1))
	for i := range b {
		b[i] = 'x'
		if i < 3 {
			b[i] = byte(m.r.IntN(256))
		}
	}
	return string(b)
}

// cell is one by chance of a key.
func (m *model) cell(key string) api.Cell {
	if m.r.IntN(5) == 0 {
		return api.Cell{Key: key, Chain: 1 + m.r.Uint32N(9), Long: m.r.Uint32()}
	}
	return api.Cell{Key: key, Value: strings.Repeat("v", m.r.IntN(m.s.value+1))}
}

// put puts a cell by chance.
func (m *model) put() {
	m.t.Helper()
	c := m.cell(m.key())
	was, there, e := m.tr.Put(c)
	_, old, had := m.find(c.Key)
	is(m.t, "Put: what was", was, old)
	is(m.t, "Put: was there", there, had)
	is(m.t, "Put's error", e, api.OK)
	m.add(c)
}

// cut cuts a key by chance.
func (m *model) cut() {
	m.t.Helper()
	key := m.key()
	changes := m.w.changes()
	was, there, e := m.tr.Cut(key)
	at, old, had := m.find(key)
	is(m.t, "Cut: what was", was, old)
	is(m.t, "Cut: was there", there, had)
	is(m.t, "Cut's error", e, api.OK)
	if had {
		m.cells = slices.Delete(m.cells, at, at+1)
		return
	}
	is(m.t, "Cut of nothing", m.w.changes(), changes)
}

// change does one thing by chance, and wants all that is promised of it.
func (m *model) change(puts int) {
	m.t.Helper()
	if m.r.IntN(100) < m.s.frozen {
		m.w.Freeze()
		m.old = append(m.old, snapshot{m.tr.Root, slices.Clone(m.cells)})
	}
	ahead := see(m.t, m.w.Memory, m.tr.Root)
	made := m.w.makes
	clear(m.w.drops)
	if m.r.IntN(100) < puts {
		m.put()
	} else {
		m.cut()
	}
	behind := see(m.t, m.w.Memory, m.tr.Root)
	if !slices.Equal(behind.cells, m.cells) {
		m.t.Fatalf("%s: the tree has other cells than were put, and not cut", m.s.what)
	}
	// What wasn't made isn't more; what was made and dropped at once isn't counted off.
	if more := m.w.makes - made; more > 2*(ahead.depth+2) {
		m.t.Errorf("%s: of %d levels %d pages more", m.s.what, ahead.depth, more)
	}
	m.dropped(ahead.pages, behind.pages, uint32(made)+2)
	is(m.t, "saves of pages that aren't its own", m.w.foreign, 0)
}

func count(m *tree.Memory) int {
	n := 0
	for range m.Pages() {
		n++
	}
	return n
}

// dropped wants just those pages to be dropped, once, that were reached, or made from one on, and aren't reached any more.
func (m *model) dropped(ahead, behind map[uint32]bool, from uint32) {
	m.t.Helper()
	for id := from; id < uint32(m.w.makes)+2; id++ {
		ahead[id] = true
	}
	want := map[uint32]int{}
	for id := range ahead {
		if !behind[id] {
			want[id] = 1
		}
	}
	if !maps.Equal(m.w.drops, want) {
		m.t.Fatalf("%s: dropped %v, wanted %v", m.s.what, m.w.drops, want)
	}
}

// end wants each tree that was frozen to be as it was.
func (m *model) end() {
	m.t.Helper()
	for _, old := range m.old {
		if s := see(m.t, m.w.Memory, old.root); !slices.Equal(s.cells, old.cells) {
			m.t.Fatalf("%s: what was frozen is another one", m.s.what)
		}
	}
	for _, c := range m.cells {
		got, there, e := m.tr.Get(c.Key)
		is(m.t, "Get", got == c && there && e == api.OK, true)
	}
}

func TestByChance(t *testing.T) {
	for i, s := range shapes() {
		m := start(t, s, uint64(i))
		for _, phase := range []struct{ changes, puts int }{{600, 90}, {400, 50}, {500, 10}, {300, 80}, {900, 5}} {
			for range phase.changes {
				m.change(phase.puts)
			}
		}
		m.end()
		for len(m.cells) > 0 {
			m.change(0)
		}
		is(t, "all is cut", m.tr.Root, 0)
	}
}

// Many keys, put and cut in several orders: there are levels enough, and pages aren't wasted for ever.
func TestOrders(t *testing.T) {
	const many = 4000
	key := func(i int) string {
		return string([]byte{byte('a' + i/400), byte('a' + i/20%20), byte('a' + i%20)}) + x(200)
	}
	for _, w := range []struct {
		what     string
		put, cut func(i int) int
	}{
		{"rising", func(i int) int { return i }, func(i int) int { return i }},
		{"rising and falling", func(i int) int { return i }, func(i int) int { return many - 1 - i }},
		{"falling", func(i int) int { return many - 1 - i }, func(i int) int { return i }},
		{"scattered", func(i int) int { return i * 1237 % many }, func(i int) int { return i * 2741 % many }},
	} {
		m := tree.New()
		tr := tree.Over(m, 0)
		for i := range many {
			tr.Put(api.Cell{Key: key(w.put(i))})
		}
		s := see(t, m, tr.Root)
		is(t, w.what+": cells", len(s.cells), many)
		if s.depth < 3 || s.depth > 5 {
			t.Errorf("%s: %d levels", w.what, s.depth)
		}
		is(t, w.what+": pages that aren't reached", count(m), len(s.pages))
		for i := range many - 20 {
			_, there, e := tr.Cut(key(w.cut(i)))
			is(t, w.what+": Cut", there && e == api.OK, true)
		}
		s = see(t, m, tr.Root)
		is(t, w.what+": what is left", len(s.cells), 20)
		is(t, w.what+": in a few pages", len(s.pages) <= 8 && count(m) == len(s.pages), true)
	}
}

// sparse makes a right tree of so many levels by chance, of which many nodes are all but empty.
func (m *model) sparse(levels int, from, to string) uint32 {
	n := node.Node{Leaf: levels == 1}
	bounds := m.between(from, to, 1+m.r.IntN(4)*m.r.IntN(5))
	for i, key := range bounds {
		if levels == 1 {
			c := m.cell(key)
			if n.Size()+slots.Leaves().Size(c) <= page.Room {
				n = n.Put(c)
				m.add(c)
			}
			continue
		}
		k, high := slots.Kid{Key: key}, to
		if i == 0 {
			k.Key = ""
		} else {
			from = key
		}
		if i+1 < len(bounds) {
			high = bounds[i+1]
		}
		k.Page = m.sparse(levels-1, from, high)
		n.Kids = append(n.Kids, k)
	}
	id, _ := m.w.Memory.Make(n)
	m.w.makes++
	return id
}

// between are keys by chance, so many at most, but one at least, that aren't below one, and are below another one.
func (m *model) between(from, to string, most int) []string {
	keys := map[string]int{}
	for range most {
		c := 'a' + m.r.IntN(26)
		key := from + strings.Repeat(string(rune(c)), 1+m.r.IntN(20))
		if len(key) <= 255 && (to == "" || key < to) {
			keys[key] = 1
		}
	}
	if len(keys) == 0 {
		return []string{from}
	}
	return slices.Sorted(maps.Keys(keys))
}

func TestOfTreesByChance(t *testing.T) {
	for seed := range uint64(60) {
		m := start(t, shape{"sparse", 255, 400, 20}, seed)
		levels := 1 + m.r.IntN(5)
		m.tr.Root = m.sparse(levels, "", "")
		is(t, "its levels", see(t, m.w.Memory, m.tr.Root).depth, levels)
		for range 40 {
			m.change(50)
		}
		for range 80 {
			m.change(5)
		}
		m.end()
	}
}
