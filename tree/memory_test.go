package tree_test

import (
	"math"
	"slices"
	"testing"

	"taproot/api"
	"taproot/node"
	"taproot/slots"
	"taproot/tree"
)

// pages wants a space of just these pages.
func pages(t *testing.T, what string, m *tree.Memory, want ...uint32) {
	t.Helper()
	var got []uint32
	for id := range m.Pages() {
		got = append(got, id)
	}
	if !slices.Equal(got, want) {
		t.Errorf("%s: pages %v, wanted %v", what, got, want)
	}
}

func TestMemory(t *testing.T) {
	m := tree.New()
	pages(t, "of a new one", m)
	for want := uint32(2); want < 6; want++ {
		id, e := m.Make(leaf("a b"))
		is(t, "Make", id, want)
		is(t, "Make's error", e, api.OK)
		is(t, "Own", m.Own(id), true)
	}
	is(t, "Save", m.Save(3, leaf("c")), api.OK)
	n, e := m.Load(3)
	is(t, "Load", e == api.OK && node.Same(n, leaf("c")), true)
	is(t, "Drop", m.Drop(4), api.OK)
	pages(t, "without one", m, 2, 3, 5)
	is(t, "Drop again", m.Drop(4), api.ErrPage)
	is(t, "Save of what is gone", m.Save(4, leaf("d")), api.ErrPage)
	is(t, "Own of what is gone", m.Own(4), false)
	n, e = m.Load(4)
	is(t, "Load of what is gone", e == api.ErrPage && !n.Leaf && len(n.Cells) == 0, true)
	id, _ := m.Make(leaf("e"))
	is(t, "a number isn't used again", id, 6)
	for _, id := range []uint32{0, 1, 7, math.MaxUint32} {
		_, e := m.Load(id)
		is(t, "Load of no page", e, api.ErrPage)
		is(t, "Save of no page", m.Save(id, leaf("a")), api.ErrPage)
		is(t, "Drop of no page", m.Drop(id), api.ErrPage)
		is(t, "Own of no page", m.Own(id), false)
	}
	pages(t, "at last", m, 2, 3, 5, 6)
}

func TestFreeze(t *testing.T) {
	m := tree.New()
	m.Make(leaf("a"))
	m.Make(leaf("b"))
	m.Freeze()
	id, _ := m.Make(leaf("c"))
	is(t, "Own", !m.Own(2) && !m.Own(3) && m.Own(id), true)
	is(t, "Save of what is frozen", m.Save(2, leaf("x")), api.ErrKind)
	is(t, "Drop of what is frozen", m.Drop(2), api.OK)
	is(t, "Drop of it again", m.Drop(2), api.OK)
	n, e := m.Load(2)
	is(t, "it stays", e == api.OK && node.Same(n, leaf("a")), true)
	pages(t, "all stay", m, 2, 3, 4)
	is(t, "Save of its own", m.Save(id, leaf("y")), api.OK)
	is(t, "Drop of its own", m.Drop(id), api.OK)
	pages(t, "its own one is gone", m, 2, 3)
	m.Freeze()
	m.Freeze()
	id, _ = m.Make(leaf("z"))
	is(t, "behind it", id == 5 && m.Own(5) && !m.Own(3), true)
}

func TestNodesAreCopied(t *testing.T) {
	m := tree.New()
	n := node.Node{Leaf: true, Cells: append(make([]api.Cell, 0, 9), api.Cell{Key: "a"})}
	b := node.Node{Kids: append(make([]slots.Kid, 0, 9), slots.Kid{Page: 7})}
	m.Make(n)
	m.Make(b)
	m.Make(leaf("x"))
	m.Save(4, n)
	n.Cells[0].Key, b.Kids[0].Page = "other", 8
	for range 2 {
		for id := uint32(2); id < 5; id++ {
			got, _ := m.Load(id)
			ruin(t, got)
		}
		for _, got := range m.Pages() {
			ruin(t, got)
		}
	}
	is(t, "spare room stays", n.Cells[:2][1] == api.Cell{} && b.Kids[:2][1] == slots.Kid{}, true)
}

// ruin wants a node to be as it was made, and changes it.
func ruin(t *testing.T, n node.Node) {
	t.Helper()
	if n.Leaf {
		is(t, "a leaf", len(n.Cells) == 1 && n.Cells[0].Key == "a", true)
		n.Cells[0].Key = "b"
		_ = append(n.Cells, api.Cell{Key: "more"})
		return
	}
	is(t, "a branch", len(n.Kids) == 1 && n.Kids[0].Page == 7, true)
	n.Kids[0].Page = 9
	_ = append(n.Kids, slots.Kid{Page: 10})
}

func TestRowsOfPages(t *testing.T) {
	m := tree.New()
	for range 5 {
		m.Make(leaf("a"))
	}
	row := m.Pages()
	var got []uint32
	for id := range row {
		got = append(got, id)
		if id == 4 {
			break
		}
	}
	is(t, "left", slices.Equal(got, []uint32{2, 3, 4}), true)
	m.Drop(2)
	m.Make(leaf("b"))
	got = nil
	for id := range row {
		got = append(got, id)
	}
	is(t, "what is there then", slices.Equal(got, []uint32{3, 4, 5, 6, 7}), true)
	got = nil
	for id := range row {
		got = append(got, id)
		m.Drop(id + 1)
	}
	is(t, "dropped meanwhile", slices.Equal(got, []uint32{3, 5, 7}), true)
}

func TestNoMemory(t *testing.T) {
	var m *tree.Memory
	_, e := m.Load(2)
	is(t, "Load of nil", e, api.ErrNil)
	id, e := m.Make(leaf("a"))
	is(t, "Make of nil", id == 0 && e == api.ErrNil, true)
	is(t, "Save of nil", m.Save(2, leaf("a")), api.ErrNil)
	is(t, "Drop of nil", m.Drop(2), api.ErrNil)
	is(t, "Own of nil", m.Own(2), false)
	m.Freeze()
	pages(t, "of nil", m)
	id, e = new(tree.Memory).Make(leaf("a"))
	is(t, "Make of the zero one", id == 2 && e == api.OK, true)
}
