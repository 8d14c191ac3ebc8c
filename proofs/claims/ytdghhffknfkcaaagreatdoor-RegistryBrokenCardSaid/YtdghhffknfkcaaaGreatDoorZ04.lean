/- Texts of one seat, merged. -/
import Derived.Test.YtdghhffknfkcaaaGreatDoorZ03
import Derived.Test.YtdghhffknfkcaaaGreatDoorZ01
import Derived.Deep.LoopGhost
import Derived.Defers
import Derived.Recover
import Derived.BigQuiet
import Derived.Deep.QuietTactic
import Derived.OwnWalk
import Derived.Deep.AppendLies
import Derived.Maps.AppendAt
set_option maxRecDepth 100000
set_option maxHeartbeats 4000000
set_option linter.unusedVariables false
/- Rows of a leaf's cells in memory; the contracts of Size and Sum. -/
namespace Go.Proofs.YtdghhffknfkcaaaGreatDoor
open Go.RowKit
open Sl (Cl Kd)
def okC (x : Cl) : Prop := x.chain < 4294967296 ∧ x.long < 4294967296
def SlC (w : World) (v : Value) (l : List Cl) : Prop :=
  ∃ (a : Option Addr) (b o c : Nat), v = .slice a l.length c ∧ (l = [] ∨ a = some ⟨b, o, none⟩) ∧
    ∀ (j : Nat) x, l[j]? = some x → w.cell? ⟨b, o + j * 4, none⟩ = some (.string (str x.key)) ∧ w.cell? ⟨b, o + j * 4 + 1, none⟩ = some (.string (str x.val)) ∧ w.cell? ⟨b, o + j * 4 + 2, none⟩ = some (.int .u32 x.chain) ∧ w.cell? ⟨b, o + j * 4 + 3, none⟩ = some (.int .u32 x.long)
theorem SlC.below {w w' : World} {v : Value} {l : List Cl} (h : SlC w v l) (hb : Below w.heap.size w w') : SlC w' v l := by
  obtain ⟨a, b, o, c, hv, ha, hx⟩ := h
  refine ⟨a, b, o, c, hv, ha, fun j p hj => ?_⟩
  obtain ⟨h0, h1, h2, h3⟩ := hx j p hj
  have hlt := World.block_lt_of_cell? _ _ h0
  exact ⟨(hb.cell (p := ⟨b, o + j * 4, none⟩) hlt).trans h0, (hb.cell (p := ⟨b, o + j * 4 + 1, none⟩) hlt).trans h1, (hb.cell (p := ⟨b, o + j * 4 + 2, none⟩) hlt).trans h2, (hb.cell (p := ⟨b, o + j * 4 + 3, none⟩) hlt).trans h3⟩
theorem In2C.step {w w1 w2 : World} {g h : Nat} {x0 x1 x2 x3 y0 y1 y2 y3 : Value} (H : w1.cell? ⟨g, 0, none⟩ = some x0 ∧ w1.cell? ⟨g, 1, none⟩ = some x1 ∧ w1.cell? ⟨g, 2, none⟩ = some x2 ∧ w1.cell? ⟨g, 3, none⟩ = some x3 ∧ w1.cell? ⟨h, 0, none⟩ = some y0 ∧ w1.cell? ⟨h, 1, none⟩ = some y1 ∧ w1.cell? ⟨h, 2, none⟩ = some y2 ∧ w1.cell? ⟨h, 3, none⟩ = some y3 ∧ Below g w w1) (hb : Below w1.heap.size w1 w2) : w2.cell? ⟨g, 0, none⟩ = some x0 ∧ w2.cell? ⟨g, 1, none⟩ = some x1 ∧ w2.cell? ⟨g, 2, none⟩ = some x2 ∧ w2.cell? ⟨g, 3, none⟩ = some x3 ∧ w2.cell? ⟨h, 0, none⟩ = some y0 ∧ w2.cell? ⟨h, 1, none⟩ = some y1 ∧ w2.cell? ⟨h, 2, none⟩ = some y2 ∧ w2.cell? ⟨h, 3, none⟩ = some y3 ∧ Below g w w2 := by
  obtain ⟨h0, h1, h2, h3, k0, k1, k2, k3, hB⟩ := H
  have hg := World.block_lt_of_cell? _ _ h0
  have hh := World.block_lt_of_cell? _ _ k0
  exact ⟨(hb.cell (p := ⟨g, 0, none⟩) hg).trans h0, (hb.cell (p := ⟨g, 1, none⟩) hg).trans h1, (hb.cell (p := ⟨g, 2, none⟩) hg).trans h2, (hb.cell (p := ⟨g, 3, none⟩) hg).trans h3, (hb.cell (p := ⟨h, 0, none⟩) hh).trans k0, (hb.cell (p := ⟨h, 1, none⟩) hh).trans k1, (hb.cell (p := ⟨h, 2, none⟩) hh).trans k2, (hb.cell (p := ⟨h, 3, none⟩) hh).trans k3, hB.trans (hb.mono (Nat.le_of_lt hg))⟩
theorem In2C.first {w w1 : World} {x0 x1 x2 x3 y0 y1 y2 y3 : Value} {T U : TypeId} (hb : Below ((w.alloc (.cells #[x0, x1, x2, x3] T)).alloc (.cells #[y0, y1, y2, y3] U)).heap.size ((w.alloc (.cells #[x0, x1, x2, x3] T)).alloc (.cells #[y0, y1, y2, y3] U)) w1) : w1.drew.cell? ⟨w.heap.size, 0, none⟩ = some x0 ∧ w1.drew.cell? ⟨w.heap.size, 1, none⟩ = some x1 ∧ w1.drew.cell? ⟨w.heap.size, 2, none⟩ = some x2 ∧ w1.drew.cell? ⟨w.heap.size, 3, none⟩ = some x3 ∧ w1.drew.cell? ⟨w.heap.size + 1, 0, none⟩ = some y0 ∧ w1.drew.cell? ⟨w.heap.size + 1, 1, none⟩ = some y1 ∧ w1.drew.cell? ⟨w.heap.size + 1, 2, none⟩ = some y2 ∧ w1.drew.cell? ⟨w.heap.size + 1, 3, none⟩ = some y3 ∧ Below w.heap.size w w1.drew := by
  have hz := size2 w (.cells #[x0, x1, x2, x3] T) (.cells #[y0, y1, y2, y3] U)
  rw [hz] at hb
  have hB : Below w.heap.size w w1 := ((((Below.refl _ _).alloc (Nat.le_refl _) (.cells #[x0, x1, x2, x3] T)).alloc (by simp) (.cells #[y0, y1, y2, y3] U))).trans (hb.mono (by omega))
  refine ⟨?_, ?_, ?_, ?_, ?_, ?_, ?_, ?_, hB.drew⟩
  · exact (hb.cell (p := ⟨w.heap.size, 0, none⟩) (by show w.heap.size < _; omega)).trans (by simp)
  · exact (hb.cell (p := ⟨w.heap.size, 1, none⟩) (by show w.heap.size < _; omega)).trans (by simp)
  · exact (hb.cell (p := ⟨w.heap.size, 2, none⟩) (by show w.heap.size < _; omega)).trans (by simp)
  · exact (hb.cell (p := ⟨w.heap.size, 3, none⟩) (by show w.heap.size < _; omega)).trans (by simp)
  · exact (hb.cell (p := ⟨w.heap.size + 1, 0, none⟩) (by show w.heap.size + 1 < _; omega)).trans (by have := World.cell?_alloc_new (w.alloc (.cells #[x0, x1, x2, x3] T)) #[y0, y1, y2, y3] U 0; rw [show (w.alloc (.cells #[x0, x1, x2, x3] T)).heap.size = w.heap.size + 1 by simp] at this; exact this)
  · exact (hb.cell (p := ⟨w.heap.size + 1, 1, none⟩) (by show w.heap.size + 1 < _; omega)).trans (by have := World.cell?_alloc_new (w.alloc (.cells #[x0, x1, x2, x3] T)) #[y0, y1, y2, y3] U 1; rw [show (w.alloc (.cells #[x0, x1, x2, x3] T)).heap.size = w.heap.size + 1 by simp] at this; exact this)
  · exact (hb.cell (p := ⟨w.heap.size + 1, 2, none⟩) (by show w.heap.size + 1 < _; omega)).trans (by have := World.cell?_alloc_new (w.alloc (.cells #[x0, x1, x2, x3] T)) #[y0, y1, y2, y3] U 2; rw [show (w.alloc (.cells #[x0, x1, x2, x3] T)).heap.size = w.heap.size + 1 by simp] at this; exact this)
  · exact (hb.cell (p := ⟨w.heap.size + 1, 3, none⟩) (by show w.heap.size + 1 < _; omega)).trans (by have := World.cell?_alloc_new (w.alloc (.cells #[x0, x1, x2, x3] T)) #[y0, y1, y2, y3] U 3; rw [show (w.alloc (.cells #[x0, x1, x2, x3] T)).heap.size = w.heap.size + 1 by simp] at this; exact this)
theorem box4C (w : World) (x0 x1 x2 x3 : Value) (T : TypeId) : (w.alloc (.cells #[x0, x1, x2, x3] T)).cell? ⟨w.heap.size, 0, none⟩ = some x0 ∧ (w.alloc (.cells #[x0, x1, x2, x3] T)).cell? ⟨w.heap.size, 1, none⟩ = some x1 ∧ (w.alloc (.cells #[x0, x1, x2, x3] T)).cell? ⟨w.heap.size, 2, none⟩ = some x2 ∧ (w.alloc (.cells #[x0, x1, x2, x3] T)).cell? ⟨w.heap.size, 3, none⟩ = some x3 :=
  ⟨by simp, by simp, by simp, by simp⟩
theorem take_some {α : Type} (l : List α) (k : Nat) (h : k < l.length) : ∃ x, l[k]? = some x := ⟨_, List.getElem?_eq_getElem h⟩
theorem encC_le (l : List Cl) (k : Nat) (h : l.length ≤ 100000) : Sl.sum Sl.shC (l.take k) ≤ 6579600000 := by
  have h1 := Sl.sum_take Sl.shC l k
  have h2 := Sl.sum_le Sl.shC 65794 (fun x => Sl.encC_len x) l
  omega
end Go.Proofs.YtdghhffknfkcaaaGreatDoor
/- Rows of a branch's cells in memory; the contracts of Size and Sum. -/
namespace Go.Proofs.YtdghhffknfkcaaaGreatDoor
open Go.RowKit
open Sl (Cl Kd)
def okK (x : Kd) : Prop := x.page < 4294967296
def SlK (w : World) (v : Value) (l : List Kd) : Prop :=
  ∃ (a : Option Addr) (b o c : Nat), v = .slice a l.length c ∧ (l = [] ∨ a = some ⟨b, o, none⟩) ∧
    ∀ (j : Nat) x, l[j]? = some x → w.cell? ⟨b, o + j * 2, none⟩ = some (.string (str x.key)) ∧ w.cell? ⟨b, o + j * 2 + 1, none⟩ = some (.int .u32 x.page)
theorem SlK.below {w w' : World} {v : Value} {l : List Kd} (h : SlK w v l) (hb : Below w.heap.size w w') : SlK w' v l := by
  obtain ⟨a, b, o, c, hv, ha, hx⟩ := h
  refine ⟨a, b, o, c, hv, ha, fun j p hj => ?_⟩
  obtain ⟨h0, h1⟩ := hx j p hj
  have hlt := World.block_lt_of_cell? _ _ h0
  exact ⟨(hb.cell (p := ⟨b, o + j * 2, none⟩) hlt).trans h0, (hb.cell (p := ⟨b, o + j * 2 + 1, none⟩) hlt).trans h1⟩
theorem In2K.step {w w1 w2 : World} {g h : Nat} {x0 x1 x2 x3 y0 y1 : Value} (H : w1.cell? ⟨g, 0, none⟩ = some x0 ∧ w1.cell? ⟨g, 1, none⟩ = some x1 ∧ w1.cell? ⟨g, 2, none⟩ = some x2 ∧ w1.cell? ⟨g, 3, none⟩ = some x3 ∧ w1.cell? ⟨h, 0, none⟩ = some y0 ∧ w1.cell? ⟨h, 1, none⟩ = some y1 ∧ Below g w w1) (hb : Below w1.heap.size w1 w2) : w2.cell? ⟨g, 0, none⟩ = some x0 ∧ w2.cell? ⟨g, 1, none⟩ = some x1 ∧ w2.cell? ⟨g, 2, none⟩ = some x2 ∧ w2.cell? ⟨g, 3, none⟩ = some x3 ∧ w2.cell? ⟨h, 0, none⟩ = some y0 ∧ w2.cell? ⟨h, 1, none⟩ = some y1 ∧ Below g w w2 := by
  obtain ⟨h0, h1, h2, h3, k0, k1, hB⟩ := H
  have hg := World.block_lt_of_cell? _ _ h0
  have hh := World.block_lt_of_cell? _ _ k0
  exact ⟨(hb.cell (p := ⟨g, 0, none⟩) hg).trans h0, (hb.cell (p := ⟨g, 1, none⟩) hg).trans h1, (hb.cell (p := ⟨g, 2, none⟩) hg).trans h2, (hb.cell (p := ⟨g, 3, none⟩) hg).trans h3, (hb.cell (p := ⟨h, 0, none⟩) hh).trans k0, (hb.cell (p := ⟨h, 1, none⟩) hh).trans k1, hB.trans (hb.mono (Nat.le_of_lt hg))⟩
theorem In2K.first {w w1 : World} {x0 x1 x2 x3 y0 y1 : Value} {T U : TypeId} (hb : Below ((w.alloc (.cells #[x0, x1, x2, x3] T)).alloc (.cells #[y0, y1] U)).heap.size ((w.alloc (.cells #[x0, x1, x2, x3] T)).alloc (.cells #[y0, y1] U)) w1) : w1.drew.cell? ⟨w.heap.size, 0, none⟩ = some x0 ∧ w1.drew.cell? ⟨w.heap.size, 1, none⟩ = some x1 ∧ w1.drew.cell? ⟨w.heap.size, 2, none⟩ = some x2 ∧ w1.drew.cell? ⟨w.heap.size, 3, none⟩ = some x3 ∧ w1.drew.cell? ⟨w.heap.size + 1, 0, none⟩ = some y0 ∧ w1.drew.cell? ⟨w.heap.size + 1, 1, none⟩ = some y1 ∧ Below w.heap.size w w1.drew := by
  have hz := size2 w (.cells #[x0, x1, x2, x3] T) (.cells #[y0, y1] U)
  rw [hz] at hb
  have hB : Below w.heap.size w w1 := ((((Below.refl _ _).alloc (Nat.le_refl _) (.cells #[x0, x1, x2, x3] T)).alloc (by simp) (.cells #[y0, y1] U))).trans (hb.mono (by omega))
  refine ⟨?_, ?_, ?_, ?_, ?_, ?_, hB.drew⟩
  · exact (hb.cell (p := ⟨w.heap.size, 0, none⟩) (by show w.heap.size < _; omega)).trans (by simp)
  · exact (hb.cell (p := ⟨w.heap.size, 1, none⟩) (by show w.heap.size < _; omega)).trans (by simp)
  · exact (hb.cell (p := ⟨w.heap.size, 2, none⟩) (by show w.heap.size < _; omega)).trans (by simp)
  · exact (hb.cell (p := ⟨w.heap.size, 3, none⟩) (by show w.heap.size < _; omega)).trans (by simp)
  · exact (hb.cell (p := ⟨w.heap.size + 1, 0, none⟩) (by show w.heap.size + 1 < _; omega)).trans (by have := World.cell?_alloc_new (w.alloc (.cells #[x0, x1, x2, x3] T)) #[y0, y1] U 0; rw [show (w.alloc (.cells #[x0, x1, x2, x3] T)).heap.size = w.heap.size + 1 by simp] at this; exact this)
  · exact (hb.cell (p := ⟨w.heap.size + 1, 1, none⟩) (by show w.heap.size + 1 < _; omega)).trans (by have := World.cell?_alloc_new (w.alloc (.cells #[x0, x1, x2, x3] T)) #[y0, y1] U 1; rw [show (w.alloc (.cells #[x0, x1, x2, x3] T)).heap.size = w.heap.size + 1 by simp] at this; exact this)
theorem box4K (w : World) (x0 x1 x2 x3 : Value) (T : TypeId) : (w.alloc (.cells #[x0, x1, x2, x3] T)).cell? ⟨w.heap.size, 0, none⟩ = some x0 ∧ (w.alloc (.cells #[x0, x1, x2, x3] T)).cell? ⟨w.heap.size, 1, none⟩ = some x1 ∧ (w.alloc (.cells #[x0, x1, x2, x3] T)).cell? ⟨w.heap.size, 2, none⟩ = some x2 ∧ (w.alloc (.cells #[x0, x1, x2, x3] T)).cell? ⟨w.heap.size, 3, none⟩ = some x3 :=
  ⟨by simp, by simp, by simp, by simp⟩
theorem encK_le (l : List Kd) (k : Nat) (h : l.length ≤ 100000) : Sl.sum Sl.shK (l.take k) ≤ 6579600000 := by
  have h1 := Sl.sum_take Sl.shK l k
  have h2 := Sl.sum_le Sl.shK 65794 (fun x => Nat.le_trans (Sl.encK_len x) (by decide)) l
  omega
end Go.Proofs.YtdghhffknfkcaaaGreatDoor
/- Cells that stay as they were while new memory is made. -/
namespace Go.Proofs.YtdghhffknfkcaaaGreatDoor
open Go.RowKit
theorem step2 {w w1 w2 : World} {B : Nat} {p0 p1 : Addr} {x0 x1 : Value} (hB : B ≤ w.heap.size) (H : w1.cell? p0 = some x0 ∧ w1.cell? p1 = some x1 ∧ Below B w w1) (hb : Below w1.heap.size w1 w2) : w2.cell? p0 = some x0 ∧ w2.cell? p1 = some x1 ∧ Below B w w2 := by
  obtain ⟨h0, h1, hq⟩ := H
  exact ⟨(hb.cell (p := p0) (World.block_lt_of_cell? _ _ h0)).trans h0, (hb.cell (p := p1) (World.block_lt_of_cell? _ _ h1)).trans h1, hq.trans (hb.mono (Nat.le_trans hB hq.size))⟩
theorem step4 {w w1 w2 : World} {B : Nat} {p0 p1 p2 p3 : Addr} {x0 x1 x2 x3 : Value} (hB : B ≤ w.heap.size) (H : w1.cell? p0 = some x0 ∧ w1.cell? p1 = some x1 ∧ w1.cell? p2 = some x2 ∧ w1.cell? p3 = some x3 ∧ Below B w w1) (hb : Below w1.heap.size w1 w2) : w2.cell? p0 = some x0 ∧ w2.cell? p1 = some x1 ∧ w2.cell? p2 = some x2 ∧ w2.cell? p3 = some x3 ∧ Below B w w2 := by
  obtain ⟨h0, h1, h2, h3, hq⟩ := H
  exact ⟨(hb.cell (p := p0) (World.block_lt_of_cell? _ _ h0)).trans h0, (hb.cell (p := p1) (World.block_lt_of_cell? _ _ h1)).trans h1, (hb.cell (p := p2) (World.block_lt_of_cell? _ _ h2)).trans h2, (hb.cell (p := p3) (World.block_lt_of_cell? _ _ h3)).trans h3, hq.trans (hb.mono (Nat.le_trans hB hq.size))⟩
theorem step6 {w w1 w2 : World} {B : Nat} {p0 p1 p2 p3 p4 p5 : Addr} {x0 x1 x2 x3 x4 x5 : Value} (hB : B ≤ w.heap.size) (H : w1.cell? p0 = some x0 ∧ w1.cell? p1 = some x1 ∧ w1.cell? p2 = some x2 ∧ w1.cell? p3 = some x3 ∧ w1.cell? p4 = some x4 ∧ w1.cell? p5 = some x5 ∧ Below B w w1) (hb : Below w1.heap.size w1 w2) : w2.cell? p0 = some x0 ∧ w2.cell? p1 = some x1 ∧ w2.cell? p2 = some x2 ∧ w2.cell? p3 = some x3 ∧ w2.cell? p4 = some x4 ∧ w2.cell? p5 = some x5 ∧ Below B w w2 := by
  obtain ⟨h0, h1, h2, h3, h4, h5, hq⟩ := H
  exact ⟨(hb.cell (p := p0) (World.block_lt_of_cell? _ _ h0)).trans h0, (hb.cell (p := p1) (World.block_lt_of_cell? _ _ h1)).trans h1, (hb.cell (p := p2) (World.block_lt_of_cell? _ _ h2)).trans h2, (hb.cell (p := p3) (World.block_lt_of_cell? _ _ h3)).trans h3, (hb.cell (p := p4) (World.block_lt_of_cell? _ _ h4)).trans h4, (hb.cell (p := p5) (World.block_lt_of_cell? _ _ h5)).trans h5, hq.trans (hb.mono (Nat.le_trans hB hq.size))⟩
theorem step8 {w w1 w2 : World} {B : Nat} {p0 p1 p2 p3 p4 p5 p6 p7 : Addr} {x0 x1 x2 x3 x4 x5 x6 x7 : Value} (hB : B ≤ w.heap.size) (H : w1.cell? p0 = some x0 ∧ w1.cell? p1 = some x1 ∧ w1.cell? p2 = some x2 ∧ w1.cell? p3 = some x3 ∧ w1.cell? p4 = some x4 ∧ w1.cell? p5 = some x5 ∧ w1.cell? p6 = some x6 ∧ w1.cell? p7 = some x7 ∧ Below B w w1) (hb : Below w1.heap.size w1 w2) : w2.cell? p0 = some x0 ∧ w2.cell? p1 = some x1 ∧ w2.cell? p2 = some x2 ∧ w2.cell? p3 = some x3 ∧ w2.cell? p4 = some x4 ∧ w2.cell? p5 = some x5 ∧ w2.cell? p6 = some x6 ∧ w2.cell? p7 = some x7 ∧ Below B w w2 := by
  obtain ⟨h0, h1, h2, h3, h4, h5, h6, h7, hq⟩ := H
  exact ⟨(hb.cell (p := p0) (World.block_lt_of_cell? _ _ h0)).trans h0, (hb.cell (p := p1) (World.block_lt_of_cell? _ _ h1)).trans h1, (hb.cell (p := p2) (World.block_lt_of_cell? _ _ h2)).trans h2, (hb.cell (p := p3) (World.block_lt_of_cell? _ _ h3)).trans h3, (hb.cell (p := p4) (World.block_lt_of_cell? _ _ h4)).trans h4, (hb.cell (p := p5) (World.block_lt_of_cell? _ _ h5)).trans h5, (hb.cell (p := p6) (World.block_lt_of_cell? _ _ h6)).trans h6, (hb.cell (p := p7) (World.block_lt_of_cell? _ _ h7)).trans h7, hq.trans (hb.mono (Nat.le_trans hB hq.size))⟩
theorem step12 {w w1 w2 : World} {B : Nat} {p0 p1 p2 p3 p4 p5 p6 p7 p8 p9 p10 p11 : Addr} {x0 x1 x2 x3 x4 x5 x6 x7 x8 x9 x10 x11 : Value} (hB : B ≤ w.heap.size) (H : w1.cell? p0 = some x0 ∧ w1.cell? p1 = some x1 ∧ w1.cell? p2 = some x2 ∧ w1.cell? p3 = some x3 ∧ w1.cell? p4 = some x4 ∧ w1.cell? p5 = some x5 ∧ w1.cell? p6 = some x6 ∧ w1.cell? p7 = some x7 ∧ w1.cell? p8 = some x8 ∧ w1.cell? p9 = some x9 ∧ w1.cell? p10 = some x10 ∧ w1.cell? p11 = some x11 ∧ Below B w w1) (hb : Below w1.heap.size w1 w2) : w2.cell? p0 = some x0 ∧ w2.cell? p1 = some x1 ∧ w2.cell? p2 = some x2 ∧ w2.cell? p3 = some x3 ∧ w2.cell? p4 = some x4 ∧ w2.cell? p5 = some x5 ∧ w2.cell? p6 = some x6 ∧ w2.cell? p7 = some x7 ∧ w2.cell? p8 = some x8 ∧ w2.cell? p9 = some x9 ∧ w2.cell? p10 = some x10 ∧ w2.cell? p11 = some x11 ∧ Below B w w2 := by
  obtain ⟨h0, h1, h2, h3, h4, h5, h6, h7, h8, h9, h10, h11, hq⟩ := H
  exact ⟨(hb.cell (p := p0) (World.block_lt_of_cell? _ _ h0)).trans h0, (hb.cell (p := p1) (World.block_lt_of_cell? _ _ h1)).trans h1, (hb.cell (p := p2) (World.block_lt_of_cell? _ _ h2)).trans h2, (hb.cell (p := p3) (World.block_lt_of_cell? _ _ h3)).trans h3, (hb.cell (p := p4) (World.block_lt_of_cell? _ _ h4)).trans h4, (hb.cell (p := p5) (World.block_lt_of_cell? _ _ h5)).trans h5, (hb.cell (p := p6) (World.block_lt_of_cell? _ _ h6)).trans h6, (hb.cell (p := p7) (World.block_lt_of_cell? _ _ h7)).trans h7, (hb.cell (p := p8) (World.block_lt_of_cell? _ _ h8)).trans h8, (hb.cell (p := p9) (World.block_lt_of_cell? _ _ h9)).trans h9, (hb.cell (p := p10) (World.block_lt_of_cell? _ _ h10)).trans h10, (hb.cell (p := p11) (World.block_lt_of_cell? _ _ h11)).trans h11, hq.trans (hb.mono (Nat.le_trans hB hq.size))⟩
end Go.Proofs.YtdghhffknfkcaaaGreatDoor
/- Plain facts of bodies of cells, for the walks of Body; nothing of the program. -/
namespace Go.Proofs.YtdghhffknfkcaaaGreatDoor
namespace Sl
open Oc
variable {α : Type}
def bodyR (S : Sh α) (l : List α) : List UInt8 × Int :=
  if right S l ≠ 0 then ([], right S l) else if 4072 < sum S l then ([], 14) else (body S l, 0)
theorem bodyR_bad (S : Sh α) (l : List α) (h : right S l ≠ 0) : bodyR S l = ([], right S l) := by unfold bodyR; rw [if_pos h]
theorem bodyR_full (S : Sh α) (l : List α) (h : right S l = 0) (h2 : 4072 < sum S l) : bodyR S l = ([], 14) := by unfold bodyR; rw [if_neg (by rw [h]; decide), if_pos h2]
theorem bodyR_ok (S : Sh α) (l : List α) (h : right S l = 0) (h2 : ¬ 4072 < sum S l) : bodyR S l = (body S l, 0) := by unfold bodyR; rw [if_neg (by rw [h]; decide), if_neg h2]
theorem encC_pos (c : Cl) : 1 ≤ (encC c).length := by
  unfold encC; split <;> simp only [List.length_append, big_length, encKey_len] <;> omega
theorem encK_pos (k : Kd) : 1 ≤ (encK k).length := by
  unfold encK; simp only [List.length_append, big_length, encKey_len]; omega
theorem at_le (S : Sh α) (l : List α) (k : Nat) (h : sum S l ≤ 4072) : 2 * l.length + ((l.take k).flatMap S.enc).length ≤ 4072 := by
  have h1 := sum_eq S l
  have h2 : ((l.take k).flatMap S.enc).length ≤ (l.flatMap S.enc).length := by
    conv => rhs; rw [← List.take_append_drop k l, List.flatMap_append, List.length_append]
    omega
  omega
theorem begins_at (S : Sh α) (l : List α) (k : Nat) (x : α) (h : l[k]? = some x) (n : Nat) : begins S n (l.take (k + 1)) = begins S n (l.take k) ++ big 2 (n + ((l.take k).flatMap S.enc).length) := by
  rw [take_snoc' l k x h, begins_snoc]
theorem flat_at (S : Sh α) (l : List α) (k : Nat) (x : α) (h : l[k]? = some x) : (l.take (k + 1)).flatMap S.enc = (l.take k).flatMap S.enc ++ S.enc x := by
  rw [take_snoc' l k x h, flat_snoc]
theorem u8_irr (a : UInt8) : ¬ a < a := fun h => by rw [UInt8.lt_iff_toNat_lt] at h; omega
theorem less_self : ∀ u : List UInt8, less u u = false
  | [] => rfl
  | a :: u => by simp [less, u8_irr a, less_self u]
theorem less_asym : ∀ x y : List UInt8, less x y = true → less y x = false
  | [], [], _ => rfl
  | [], _ :: _, _ => rfl
  | _ :: _, [], h => by cases h
  | a :: x, b :: y, h => by
    simp only [less, Bool.or_eq_true, decide_eq_true_eq, Bool.and_eq_true, beq_iff_eq] at h
    rcases h with h | ⟨rfl, h⟩
    · have h1 : ¬ b < a := fun h2 => by rw [UInt8.lt_iff_toNat_lt] at h h2; omega
      have h2 : ¬ b = a := fun h2 => u8_irr a (h2 ▸ h)
      simp [less, h1, h2]
    · simp [less, u8_irr a, less_asym x y h]
theorem less_tri : ∀ x y : List UInt8, less x y = false → less y x = false → x = y
  | [], [], _, _ => rfl
  | [], _ :: _, h, _ => by cases h
  | _ :: _, [], _, h => by cases h
  | a :: x, b :: y, h, k => by
    simp only [less, Bool.or_eq_false_iff, decide_eq_false_iff_not, Bool.and_eq_false_imp, beq_iff_eq] at h k
    have hab : a = b := by
      have h1 := h.1
      have h2 := k.1
      rw [UInt8.lt_iff_toNat_lt] at h1 h2
      exact UInt8.toNat_inj.1 (by omega)
    rw [hab, less_tri x y (h.2 hab) (k.2 hab.symm)]
end Sl
end Go.Proofs.YtdghhffknfkcaaaGreatDoor
/- The contract of the document's own cell. -/
namespace Go.Proofs.YtdghhffknfkcaaaGreatDoor
open Go.RowKit
open Sl (Cl Kd)
theorem ext_take (l : List UInt8) (n : Nat) (h : n ≤ l.length) : (str l).extract 0 n = str (l.take n) := by
  have := str_take l n
  rwa [Nat.min_eq_right h] at this
theorem big1_at (x : Int) (n : Nat) (hx : x = n) (hn : n < 256) (w : World) :
    Calls Tryz.prog 156 #[.int .u64 x, .int .i64 1] w fun e w' => e = .returned (.string (str (Oc.big 1 n))) ∧ Below w.heap.size w w' := big_any x n 1 hx (by omega) (by omega) (by omega) w
theorem big2_at (x : Int) (n : Nat) (hx : x = n) (hn : n < 65536) (w : World) :
    Calls Tryz.prog 156 #[.int .u64 x, .int .i64 2] w fun e w' => e = .returned (.string (str (Oc.big 2 n))) ∧ Below w.heap.size w w' := big_any x n 2 hx (by omega) (by omega) (by omega) w
theorem big4_at (x : Int) (n : Nat) (hx : x = n) (hn : n < 4294967296) (w : World) :
    Calls Tryz.prog 156 #[.int .u64 x, .int .i64 4] w fun e w' => e = .returned (.string (str (Oc.big 4 n))) ∧ Below w.heap.size w w' := big_any x n 4 hx (by omega) (by omega) (by omega) w
theorem below_drewN {B : Nat} {u v : World} (h : Below B u v) (n : Nat) : Below B u (v.drewN n) := ⟨h.os, h.tape, h.output, h.size, h.block⟩
theorem quiet_box {w : World} {x0 x1 x2 x3 : Value} {T : TypeId} (n : Nat) :
    ((w.alloc (.cells #[x0, x1, x2, x3] T)).drewN n).cell? ⟨w.heap.size, 0, none⟩ = some x0 ∧ ((w.alloc (.cells #[x0, x1, x2, x3] T)).drewN n).cell? ⟨w.heap.size, 1, none⟩ = some x1 ∧ ((w.alloc (.cells #[x0, x1, x2, x3] T)).drewN n).cell? ⟨w.heap.size, 2, none⟩ = some x2 ∧ ((w.alloc (.cells #[x0, x1, x2, x3] T)).drewN n).cell? ⟨w.heap.size, 3, none⟩ = some x3 ∧ Below w.heap.size w ((w.alloc (.cells #[x0, x1, x2, x3] T)).drewN n) :=
  ⟨by simp, by simp, by simp, by simp, below_drewN ((Below.refl _ _).alloc (Nat.le_refl _) _) n⟩
end Go.Proofs.YtdghhffknfkcaaaGreatDoor
/- The contracts of the document's own Sum and right. -/
namespace Go.Proofs.YtdghhffknfkcaaaGreatDoor
open Go.RowKit
open Sl (Cl Kd)
namespace Sl
/-- What the document's answer takes a cell for: a leaf's, or a branch's. -/
def shR (leaf : Bool) : Sh Cl := ⟨fun c => if leaf then encC c else encK ⟨c.key, c.chain⟩, Cl.key, fun c => if leaf then fitsC c else true⟩
theorem shR_len (leaf : Bool) (c : Cl) : ((shR leaf).enc c).length ≤ 65794 := by
  cases leaf
  · exact Nat.le_trans (encK_len ⟨c.key, c.chain⟩) (by decide)
  · exact encC_len c
end Sl
theorem shR_le (leaf : Bool) (l : List Cl) (k : Nat) (h : l.length ≤ 100000) : Sl.sum (Sl.shR leaf) (l.take k) ≤ 6579600000 := by
  have h1 := Sl.sum_take (Sl.shR leaf) l k
  have h2 := Sl.sum_le (Sl.shR leaf) 65794 (Sl.shR_len leaf) l
  omega
end Go.Proofs.YtdghhffknfkcaaaGreatDoor
/- Rows of cells that the law itself makes: a leaf's cells as a branch's, and back. -/
namespace Go.Proofs.YtdghhffknfkcaaaGreatDoor
open Go.RowKit
open Sl (Cl Kd)
def toK (c : Cl) : Kd := ⟨c.key, c.chain⟩
def toC (k : Kd) : Cl := ⟨k.key, [], k.page, 0⟩
def cellsC (c : Cl) : List Value := [.string (str c.key), .string (str c.val), .int .u32 c.chain, .int .u32 c.long]
def cellsK (k : Kd) : List Value := [.string (str k.key), .int .u32 k.page]
theorem flat_at {α : Type} (f : α → List Value) (s : Nat) (hf : ∀ x, (f x).length = s) : ∀ (l : List α) (j i : Nat) (p : α), l[j]? = some p → i < s → (l.flatMap f)[j * s + i]? = (f p)[i]?
  | [], j, i, p, h, _ => by simp at h
  | q :: l, 0, i, p, h, hi => by
    simp at h
    subst h
    rw [List.flatMap_cons, List.getElem?_append_left (by rw [hf]; omega)]
    simp
  | q :: l, j + 1, i, p, h, hi => by
    rw [List.flatMap_cons, List.getElem?_append_right (by rw [hf, Nat.add_mul]; omega)]
    rw [show (j + 1) * s + i - (f q).length = j * s + i by rw [hf, Nat.add_mul]; omega]
    exact flat_at f s hf l j i p (by simpa using h) hi
theorem SlC.nil (w : World) : SlC w (.slice none 0 0) [] := ⟨none, 0, 0, 0, rfl, .inl rfl, fun j p h => by simp at h⟩
theorem SlK.nil (w : World) : SlK w (.slice none 0 0) [] := ⟨none, 0, 0, 0, rfl, .inl rfl, fun j p h => by simp at h⟩
theorem flat_len {α : Type} (f : α → List Value) (s : Nat) (hf : ∀ x, (f x).length = s) (l : List α) : (l.flatMap f).length = l.length * s := by
  induction l with
  | nil => simp
  | cons p l ih => rw [List.flatMap_cons, List.length_append, ih, hf, List.length_cons, Nat.add_mul]; omega
theorem cellsC_len (c : Cl) : (cellsC c).length = 4 := rfl
theorem cellsK_len (c : Kd) : (cellsK c).length = 2 := rfl
theorem SlC.own {w : World} {B : Nat} {e : TypeId} {v : Value} {l : List Cl} (h : w.ownsRow B e 4 v l.length (l.flatMap cellsC)) : SlC w v l := by
  have hw := h
  obtain ⟨_, h1⟩ := h
  rcases h1 with ⟨rfl, h0⟩ | ⟨g, cap, cur, rfl, _⟩
  · obtain rfl : l = [] := List.length_eq_zero_iff.1 h0
    exact SlC.nil w
  · refine ⟨_, g, 0, cap, rfl, .inr rfl, fun j p hj => ?_⟩
    have hlt := (List.getElem?_eq_some_iff.1 hj).1
    have c := fun i (hi : i < 4) => (hw.cellAt (j * 4 + i) (by omega)).trans (flat_at cellsC 4 cellsC_len l j i p hj hi)
    refine ⟨?_, ?_, ?_, ?_⟩
    · have := c 0 (by omega); simpa [cellsC] using this
    · have := c 1 (by omega); simpa [cellsC, Nat.add_assoc] using this
    · have := c 2 (by omega); simpa [cellsC, Nat.add_assoc] using this
    · have := c 3 (by omega); simpa [cellsC, Nat.add_assoc] using this
theorem SlK.own {w : World} {B : Nat} {e : TypeId} {v : Value} {l : List Kd} (h : w.ownsRow B e 2 v l.length (l.flatMap cellsK)) : SlK w v l := by
  have hw := h
  obtain ⟨_, h1⟩ := h
  rcases h1 with ⟨rfl, h0⟩ | ⟨g, cap, cur, rfl, _⟩
  · obtain rfl : l = [] := List.length_eq_zero_iff.1 h0
    exact SlK.nil w
  · refine ⟨_, g, 0, cap, rfl, .inr rfl, fun j p hj => ?_⟩
    have hlt := (List.getElem?_eq_some_iff.1 hj).1
    have c := fun i (hi : i < 2) => (hw.cellAt (j * 2 + i) (by omega)).trans (flat_at cellsK 2 cellsK_len l j i p hj hi)
    refine ⟨?_, ?_⟩
    · have := c 0 (by omega); simpa [cellsK] using this
    · have := c 1 (by omega); simpa [cellsK, Nat.add_assoc] using this
theorem cellsK_new (w : World) (k : Kd) (T : TypeId) : ∀ (j : Nat) u, (cellsK k)[j]? = some u →
    (w.alloc (.cells #[.string (str k.key), .int .u32 k.page] T)).cell? ((⟨w.heap.size, 0, none⟩ : Addr).add j) = some u := by
  intro j u hj
  match j, hj with
  | 0, hj => simp [cellsK] at hj; subst hj; simp [Addr.add]
  | 1, hj => simp [cellsK] at hj; subst hj; simp [Addr.add]
  | (j + 2), hj => simp [cellsK] at hj
theorem cellsC_new (w : World) (c : Cl) (T : TypeId) : ∀ (j : Nat) u, (cellsC c)[j]? = some u →
    (w.alloc (.cells #[.string (str c.key), .string (str c.val), .int .u32 c.chain, .int .u32 c.long] T)).cell? ((⟨w.heap.size, 0, none⟩ : Addr).add j) = some u := by
  intro j u hj
  match j, hj with
  | 0, hj => simp [cellsC] at hj; subst hj; simp [Addr.add]
  | 1, hj => simp [cellsC] at hj; subst hj; simp [Addr.add]
  | 2, hj => simp [cellsC] at hj; subst hj; simp [Addr.add]
  | 3, hj => simp [cellsC] at hj; subst hj; simp [Addr.add]
  | (j + 4), hj => simp [cellsC] at hj
theorem cellsK_one (k : Kd) : ∀ u ∈ cellsK k, u.oneCell' = true := by
  intro u hu
  simp [cellsK] at hu
  rcases hu with rfl | rfl <;> rfl
theorem cellsC_one (c : Cl) : ∀ u ∈ cellsC c, u.oneCell' = true := by
  intro u hu
  simp [cellsC] at hu
  rcases hu with rfl | rfl | rfl | rfl <;> rfl
/-- A row that was made. -/
def MadeK (w : World) (l : List Kd) (e : Ending) (w' : World) : Prop := ∃ v, e = .returned v ∧ SlK w' v l ∧ Below w.heap.size w w'
def MadeC (w : World) (l : List Cl) (e : Ending) (w' : World) : Prop := ∃ v, e = .returned v ∧ SlC w' v l ∧ Below w.heap.size w w'
theorem map_take_snoc {α β : Type} (f : α → β) (l : List α) (k : Nat) (x : α) (h : l[k]? = some x) : (l.take (k + 1)).map f = (l.take k).map f ++ [f x] := by
  obtain ⟨hk, he⟩ := List.getElem?_eq_some_iff.1 h
  rw [List.take_succ_eq_append_getElem hk, he, List.map_append]; rfl
end Go.Proofs.YtdghhffknfkcaaaGreatDoor
/- Where a row of cells is cut in two. -/
namespace Go.Proofs.YtdghhffknfkcaaaGreatDoor.Sl
variable {α β : Type}
def dif (S : Sh α) (l : List α) (i : Nat) : Nat := ((2 * sum S (l.take i) : Nat) - (sum S l : Nat) : Int).natAbs
def best (d : Nat → Nat) : Nat → Nat × Nat
  | 0 => (0, 0)
  | 1 => (1, d 1)
  | k + 2 => if d (k + 2) < (best d (k + 1)).2 then (k + 2, d (k + 2)) else best d (k + 1)
theorem best_bd (d : Nat → Nat) : ∀ k, 1 ≤ k → 1 ≤ (best d k).1 ∧ (best d k).1 ≤ k
  | 0, h => absurd h (by decide)
  | 1, _ => ⟨Nat.le_refl _, Nat.le_refl _⟩
  | k + 2, _ => by
    unfold best
    have ih := best_bd d (k + 1) (Nat.succ_le_succ (Nat.zero_le _))
    split
    · exact ⟨Nat.succ_le_succ (Nat.zero_le _), Nat.le_refl _⟩
    · exact ⟨ih.1, Nat.le_succ_of_le ih.2⟩
theorem best_one (d : Nat → Nat) : best d 1 = (1, d 1) := rfl
theorem best_less (d : Nat → Nat) (k : Nat) (hk : 1 ≤ k) (h : d (k + 1) < (best d k).2) : best d (k + 1) = (k + 1, d (k + 1)) := by
  obtain ⟨k, rfl⟩ : ∃ j, k = j + 1 := ⟨k - 1, by omega⟩
  show (if _ then _ else _) = _
  rw [if_pos h]
theorem best_keep (d : Nat → Nat) (k : Nat) (hk : 1 ≤ k) (h : ¬ d (k + 1) < (best d k).2) : best d (k + 1) = best d k := by
  obtain ⟨k, rfl⟩ : ∃ j, k = j + 1 := ⟨k - 1, by omega⟩
  show (if _ then _ else _) = _
  rw [if_neg h]
/-- The two numbers that the walk keeps: behind j cuts looked at. -/
def st (S : Sh α) (l : List α) (j : Nat) : Nat × Nat := if j = 0 then (l.length, 0) else best (dif S l) j
theorem st_zero (S : Sh α) (l : List α) : st S l 0 = (l.length, 0) := rfl
theorem st_first (S : Sh α) (l : List α) : st S l 1 = (1, dif S l 1) := rfl
theorem st_less (S : Sh α) (l : List α) (j : Nat) (hj : j ≠ 0) (h : dif S l (j + 1) < (st S l j).2) : st S l (j + 1) = (j + 1, dif S l (j + 1)) := by
  unfold st at h ⊢
  rw [if_neg hj] at h
  rw [if_neg (Nat.succ_ne_zero j)]
  exact best_less _ j (by omega) h
theorem st_keep (S : Sh α) (l : List α) (j : Nat) (hj : j ≠ 0) (h : ¬ dif S l (j + 1) < (st S l j).2) : st S l (j + 1) = st S l j := by
  unfold st at h ⊢
  rw [if_neg hj] at h
  rw [if_neg (Nat.succ_ne_zero j), if_neg hj]
  exact best_keep _ j (by omega) h
def cutAt (S : Sh α) (l : List α) : Nat := if l.length < 2 then l.length else (best (dif S l) (l.length - 1)).1
theorem cutAt_le (S : Sh α) (l : List α) : cutAt S l ≤ l.length := by
  unfold cutAt
  split
  · exact Nat.le_refl _
  · have := (best_bd (dif S l) (l.length - 1) (by omega)).2; omega
theorem cutAt_pos (S : Sh α) (l : List α) (h : 2 ≤ l.length) : 1 ≤ cutAt S l ∧ cutAt S l < l.length := by
  unfold cutAt
  rw [if_neg (by omega)]
  have := best_bd (dif S l) (l.length - 1) (by omega)
  omega
theorem cutAt_st (S : Sh α) (l : List α) : cutAt S l = (st S l (l.length - 1)).1 := by
  unfold cutAt st
  by_cases h : l.length < 2
  · rw [if_pos h, if_pos (by omega)]
  · rw [if_neg h, if_neg (by omega)]
theorem sum_app (S : Sh α) (l m : List α) : sum S (l ++ m) = sum S l + sum S m := by
  unfold sum; rw [List.map_append, List.sum_append]
theorem sum_cut (S : Sh α) (l : List α) (i : Nat) : sum S (l.take i) + sum S (l.drop i) = sum S l := by
  rw [← sum_app, List.take_append_drop]
end Go.Proofs.YtdghhffknfkcaaaGreatDoor.Sl
/- Cells that stay as they were: what stands last. -/
namespace Go.Proofs.YtdghhffknfkcaaaGreatDoor
open Go.RowKit
theorem last4 {w w1 : World} {B : Nat} {p0 p1 p2 p3 : Addr} {x0 x1 x2 x3 : Value} (H : w1.cell? p0 = some x0 ∧ w1.cell? p1 = some x1 ∧ w1.cell? p2 = some x2 ∧ w1.cell? p3 = some x3 ∧ Below B w w1) : Below B w w1 := H.2.2.2.2
theorem last8 {w w1 : World} {B : Nat} {p0 p1 p2 p3 p4 p5 p6 p7 : Addr} {x0 x1 x2 x3 x4 x5 x6 x7 : Value} (H : w1.cell? p0 = some x0 ∧ w1.cell? p1 = some x1 ∧ w1.cell? p2 = some x2 ∧ w1.cell? p3 = some x3 ∧ w1.cell? p4 = some x4 ∧ w1.cell? p5 = some x5 ∧ w1.cell? p6 = some x6 ∧ w1.cell? p7 = some x7 ∧ Below B w w1) : Below B w w1 := H.2.2.2.2.2.2.2.2
end Go.Proofs.YtdghhffknfkcaaaGreatDoor
/- Rows of one's own, and rows that can be cut. -/
namespace Go.Proofs.YtdghhffknfkcaaaGreatDoor
open Go.RowKit
open Sl (Cl Kd)
/-- A slice whose room is in order. -/
inductive Cap : Value → Prop
  | mk (a : Option Addr) (n c : Nat) (h : n ≤ c) (hm : c ≤ maxLen) (h0 : a = none → c = 0) : Cap (.slice a n c)
theorem ownsRow_below {w w' : World} {B : Nat} {e : TypeId} {s : Nat} {v : Value} {n : Nat} {xs : List Value} (h : w.ownsRow B e s v n xs) (hb : Below w.heap.size w w') : w'.ownsRow B e s v n xs := by
  obtain ⟨h0, h1⟩ := h
  refine ⟨h0, ?_⟩
  rcases h1 with h1 | ⟨g, cap, cur, hv, hB, hg, h2, h3, h4, h5⟩
  · exact .inl h1
  · refine .inr ⟨g, cap, cur, hv, hB, ?_, h2, h3, h4, h5⟩
    have hlt : g < w.heap.size := (Array.getElem?_eq_some_iff.1 hg).1
    rw [hb.block g hlt]; exact hg
theorem ownsRow_cap {w : World} {B : Nat} {e : TypeId} {s : Nat} {v : Value} {n : Nat} {xs : List Value} (h : w.ownsRow B e s v n xs) : Cap v := by
  obtain ⟨_, h1⟩ := h
  rcases h1 with ⟨rfl, _⟩ | ⟨g, cap, cur, rfl, _, _, h2, h3, _⟩
  · exact ⟨none, 0, 0, Nat.le_refl _, Nat.zero_le _, fun _ => rfl⟩
  · exact ⟨_, n, cap, h2, h3, fun h => by cases h⟩
theorem ownsRow_base {w : World} {B B' : Nat} {e : TypeId} {s : Nat} {v : Value} {n : Nat} {xs : List Value} (h : w.ownsRow B e s v n xs) (hb : B' ≤ B) : w.ownsRow B' e s v n xs := by
  obtain ⟨h0, h1⟩ := h
  refine ⟨h0, ?_⟩
  rcases h1 with h1 | ⟨g, cap, cur, hv, hB, hg, h2, h3, h4, h5⟩
  · exact .inl h1
  · exact .inr ⟨g, cap, cur, hv, Nat.le_trans hb hB, hg, h2, h3, h4, h5⟩
theorem ownsRow_keep {w w' : World} {B B' : Nat} {e : TypeId} {s : Nat} {v : Value} {n : Nat} {xs : List Value} (h : w.ownsRow B e s v n xs) (hlo : ∀ k, v.ownBlock = some k → k < B') (hb : Below B' w w') : w'.ownsRow B e s v n xs := by
  obtain ⟨h0, h1⟩ := h
  refine ⟨h0, ?_⟩
  rcases h1 with h1 | ⟨g, cap, cur, hv, hB, hg, h2, h3, h4, h5⟩
  · exact .inl h1
  · refine .inr ⟨g, cap, cur, hv, hB, ?_, h2, h3, h4, h5⟩
    rw [hb.block g (hlo g (by rw [hv]; rfl))]; exact hg
theorem last6 {w w1 : World} {B : Nat} {p0 p1 p2 p3 p4 p5 : Addr} {x0 x1 x2 x3 x4 x5 : Value} (H : w1.cell? p0 = some x0 ∧ w1.cell? p1 = some x1 ∧ w1.cell? p2 = some x2 ∧ w1.cell? p3 = some x3 ∧ w1.cell? p4 = some x4 ∧ w1.cell? p5 = some x5 ∧ Below B w w1) : Below B w w1 := H.2.2.2.2.2.2
theorem add_plain' (b o j : Nat) : (⟨b, o, none⟩ : Addr).add j = ⟨b, o + j, none⟩ := by
  unfold Addr.add; split <;> simp_all
theorem flat_split {α : Type} (f : α → List Value) (s : Nat) (hs : 0 < s) (hf : ∀ x, (f x).length = s) (l : List α) (j : Nat) (u : Value) (h : (l.flatMap f)[j]? = some u) :
    ∃ i r x, l[i]? = some x ∧ r < s ∧ j = i * s + r ∧ (f x)[r]? = some u := by
  have hj : j < l.length * s := by rw [← flat_len f s hf]; exact (List.getElem?_eq_some_iff.1 h).1
  have hi : j / s < l.length := by rw [Nat.div_lt_iff_lt_mul hs]; exact hj
  have hd : j = j / s * s + j % s := by rw [Nat.mul_comm]; exact (Nat.div_add_mod j s).symm
  have hr : j % s < s := Nat.mod_lt _ hs
  refine ⟨j / s, j % s, l[j / s], List.getElem?_eq_getElem hi, hr, hd, ?_⟩
  have := flat_at f s hf l (j / s) (j % s) _ (List.getElem?_eq_getElem hi) hr
  rw [← hd, h] at this
  exact this.symm
theorem SlC.flat {w : World} {b o : Nat} {l : List Cl} (hx : ∀ (j : Nat) x, l[j]? = some x → w.cell? ⟨b, o + j * 4, none⟩ = some (.string (str x.key)) ∧ w.cell? ⟨b, o + j * 4 + 1, none⟩ = some (.string (str x.val)) ∧ w.cell? ⟨b, o + j * 4 + 2, none⟩ = some (.int .u32 x.chain) ∧ w.cell? ⟨b, o + j * 4 + 3, none⟩ = some (.int .u32 x.long)) :
    ∀ j u, (l.flatMap cellsC)[j]? = some u → w.cell? ((⟨b, o, none⟩ : Addr).add j) = some u := by
  intro j u hj
  obtain ⟨i, r, x, hi, hr, rfl, hu⟩ := flat_split cellsC 4 (by decide) cellsC_len l j u hj
  obtain ⟨h0, h1, h2, h3⟩ := hx i x hi
  rw [add_plain', ← Nat.add_assoc]
  match r, hr, hu with
  | 0, _, hu => simp [cellsC] at hu; rw [← hu]; exact h0
  | 1, _, hu => simp [cellsC] at hu; rw [← hu]; exact h1
  | 2, _, hu => simp [cellsC] at hu; rw [← hu]; exact h2
  | 3, _, hu => simp [cellsC] at hu; rw [← hu]; exact h3
theorem SlK.flat {w : World} {b o : Nat} {l : List Kd} (hx : ∀ (j : Nat) x, l[j]? = some x → w.cell? ⟨b, o + j * 2, none⟩ = some (.string (str x.key)) ∧ w.cell? ⟨b, o + j * 2 + 1, none⟩ = some (.int .u32 x.page)) :
    ∀ j u, (l.flatMap cellsK)[j]? = some u → w.cell? ((⟨b, o, none⟩ : Addr).add j) = some u := by
  intro j u hj
  obtain ⟨i, r, x, hi, hr, rfl, hu⟩ := flat_split cellsK 2 (by decide) cellsK_len l j u hj
  obtain ⟨h0, h1⟩ := hx i x hi
  rw [add_plain', ← Nat.add_assoc]
  match r, hr, hu with
  | 0, _, hu => simp [cellsK] at hu; rw [← hu]; exact h0
  | 1, _, hu => simp [cellsK] at hu; rw [← hu]; exact h1
theorem flat_oneC (l : List Cl) : ∀ u ∈ l.flatMap cellsC, u.oneCell' = true := by
  intro u hu
  obtain ⟨x, _, h⟩ := List.mem_flatMap.1 hu
  exact cellsC_one x u h
theorem flat_oneK (l : List Kd) : ∀ u ∈ l.flatMap cellsK, u.oneCell' = true := by
  intro u hu
  obtain ⟨x, _, h⟩ := List.mem_flatMap.1 hu
  exact cellsK_one x u h
end Go.Proofs.YtdghhffknfkcaaaGreatDoor
/- Rows of texts of one's own, as rows of cells. -/
namespace Go.Proofs.YtdghhffknfkcaaaGreatDoor
open Go.RowKit
def cellsT (x : List UInt8) : List Value := [.string (str x)]
theorem cellsT_len (x : List UInt8) : (cellsT x).length = 1 := rfl
theorem cellsT_one (x : List UInt8) : ∀ u ∈ cellsT x, u.oneCell' = true := by
  intro u hu
  simp [cellsT] at hu
  subst hu
  rfl
theorem infoT : (Tryz.prog.info? 9).map (fun i => (i.zero, i.size, i.bytes)) = some (some (.string ⟨#[]⟩), 1, 16) := by kernel_rfl
def RowT (w : World) (B : Nat) (v : Value) (l : List (List UInt8)) : Prop := w.ownsRow B 9 1 v l.length (l.flatMap cellsT)
theorem flat_oneT (l : List (List UInt8)) : ∀ u ∈ l.flatMap cellsT, u.oneCell' = true := by
  intro u hu
  obtain ⟨x, _, h⟩ := List.mem_flatMap.1 hu
  exact cellsT_one x u h
end Go.Proofs.YtdghhffknfkcaaaGreatDoor
