/- Rows of a branch's cells in memory; the contracts of Size and Sum. -/
import Derived.Test.YtdkkcogjkeonkaaBytC
import Derived.Defers
import Derived.Recover
import Derived.Test.YtdkkcogjkeonkaaBig
import Derived.Test.YtdkkcogjkeonkaaSizC
import Derived.Deep.LoopGhost
set_option maxRecDepth 100000
set_option maxHeartbeats 4000000
set_option linter.unusedVariables false
namespace Go.Proofs.Ytdkkcogjkeonkaa
open Go.RowKit
open Sl (Cl Kd)
def okK (x : Kd) : Prop := x.page < 4294967296
def SlK (w : World) (v : Value) (l : List Kd) : Prop :=
  ∃ (a : Option Addr) (b o c : Nat), v = .slice a l.length c ∧ (l = [] ∨ a = some ⟨b, o, none⟩) ∧
    ∀ (j : Nat) x, l[j]? = some x → w.cell? ⟨b, o + j * 2, none⟩ = some (.string (str x.key)) ∧ w.cell? ⟨b, o + j * 2 + 1, none⟩ = some (.int .u32 x.page)
theorem SlK.below {w w' : World} {v : Value} {l : List Kd} (h : SlK w v l) (hb : Below w.heap.size w w') : SlK w' v l := by
  obtain ⟨a, b, o, c, hv, ha, hx⟩ := h
  refine ⟨a, b, o, c, hv, ha, fun j p hj => ?_⟩
  obtain ⟨h0, h1⟩ := hx j p hj
  have hlt := World.block_lt_of_cell? _ _ h0
  exact ⟨(hb.cell (p := ⟨b, o + j * 2, none⟩) hlt).trans h0, (hb.cell (p := ⟨b, o + j * 2 + 1, none⟩) hlt).trans h1⟩
theorem In2K.step {w w1 w2 : World} {g h : Nat} {x0 x1 x2 x3 y0 y1 : Value} (H : w1.cell? ⟨g, 0, none⟩ = some x0 ∧ w1.cell? ⟨g, 1, none⟩ = some x1 ∧ w1.cell? ⟨g, 2, none⟩ = some x2 ∧ w1.cell? ⟨g, 3, none⟩ = some x3 ∧ w1.cell? ⟨h, 0, none⟩ = some y0 ∧ w1.cell? ⟨h, 1, none⟩ = some y1 ∧ Below g w w1) (hb : Below w1.heap.size w1 w2) : w2.cell? ⟨g, 0, none⟩ = some x0 ∧ w2.cell? ⟨g, 1, none⟩ = some x1 ∧ w2.cell? ⟨g, 2, none⟩ = some x2 ∧ w2.cell? ⟨g, 3, none⟩ = some x3 ∧ w2.cell? ⟨h, 0, none⟩ = some y0 ∧ w2.cell? ⟨h, 1, none⟩ = some y1 ∧ Below g w w2 := by
  obtain ⟨h0, h1, h2, h3, k0, k1, hB⟩ := H
  have hg := World.block_lt_of_cell? _ _ h0
  have hh := World.block_lt_of_cell? _ _ k0
  exact ⟨(hb.cell (p := ⟨g, 0, none⟩) hg).trans h0, (hb.cell (p := ⟨g, 1, none⟩) hg).trans h1, (hb.cell (p := ⟨g, 2, none⟩) hg).trans h2, (hb.cell (p := ⟨g, 3, none⟩) hg).trans h3, (hb.cell (p := ⟨h, 0, none⟩) hh).trans k0, (hb.cell (p := ⟨h, 1, none⟩) hh).trans k1, hB.trans (hb.mono (Nat.le_of_lt hg))⟩
theorem In2K.first {w w1 : World} {x0 x1 x2 x3 y0 y1 : Value} {T U : TypeId} (hb : Below ((w.alloc (.cells #[x0, x1, x2, x3] T)).alloc (.cells #[y0, y1] U)).heap.size ((w.alloc (.cells #[x0, x1, x2, x3] T)).alloc (.cells #[y0, y1] U)) w1) : w1.drew.cell? ⟨w.heap.size, 0, none⟩ = some x0 ∧ w1.drew.cell? ⟨w.heap.size, 1, none⟩ = some x1 ∧ w1.drew.cell? ⟨w.heap.size, 2, none⟩ = some x2 ∧ w1.drew.cell? ⟨w.heap.size, 3, none⟩ = some x3 ∧ w1.drew.cell? ⟨w.heap.size + 1, 0, none⟩ = some y0 ∧ w1.drew.cell? ⟨w.heap.size + 1, 1, none⟩ = some y1 ∧ Below w.heap.size w w1.drew := by
  have hz := size2 w (.cells #[x0, x1, x2, x3] T) (.cells #[y0, y1] U)
  rw [hz] at hb
  have hB : Below w.heap.size w w1 := ((((Below.refl _ _).alloc (Nat.le_refl _) (.cells #[x0, x1, x2, x3] T)).alloc (by simp) (.cells #[y0, y1] U))).trans (hb.mono (by omega))
  refine ⟨?_, ?_, ?_, ?_, ?_, ?_, hB.drew⟩
  · exact (hb.cell (p := ⟨w.heap.size, 0, none⟩) (by show w.heap.size < _; omega)).trans (by simp)
  · exact (hb.cell (p := ⟨w.heap.size, 1, none⟩) (by show w.heap.size < _; omega)).trans (by simp)
  · exact (hb.cell (p := ⟨w.heap.size, 2, none⟩) (by show w.heap.size < _; omega)).trans (by simp)
  · exact (hb.cell (p := ⟨w.heap.size, 3, none⟩) (by show w.heap.size < _; omega)).trans (by simp)
  · exact (hb.cell (p := ⟨w.heap.size + 1, 0, none⟩) (by show w.heap.size + 1 < _; omega)).trans (by have := World.cell?_alloc_new (w.alloc (.cells #[x0, x1, x2, x3] T)) #[y0, y1] U 0; rw [show (w.alloc (.cells #[x0, x1, x2, x3] T)).heap.size = w.heap.size + 1 by simp] at this; exact this)
  · exact (hb.cell (p := ⟨w.heap.size + 1, 1, none⟩) (by show w.heap.size + 1 < _; omega)).trans (by have := World.cell?_alloc_new (w.alloc (.cells #[x0, x1, x2, x3] T)) #[y0, y1] U 1; rw [show (w.alloc (.cells #[x0, x1, x2, x3] T)).heap.size = w.heap.size + 1 by simp] at this; exact this)
theorem box4K (w : World) (x0 x1 x2 x3 : Value) (T : TypeId) : (w.alloc (.cells #[x0, x1, x2, x3] T)).cell? ⟨w.heap.size, 0, none⟩ = some x0 ∧ (w.alloc (.cells #[x0, x1, x2, x3] T)).cell? ⟨w.heap.size, 1, none⟩ = some x1 ∧ (w.alloc (.cells #[x0, x1, x2, x3] T)).cell? ⟨w.heap.size, 2, none⟩ = some x2 ∧ (w.alloc (.cells #[x0, x1, x2, x3] T)).cell? ⟨w.heap.size, 3, none⟩ = some x3 :=
  ⟨by simp, by simp, by simp, by simp⟩
theorem encK_le (l : List Kd) (k : Nat) (h : l.length ≤ 100000) : Sl.sum Sl.shK (l.take k) ≤ 6579600000 := by
  have h1 := Sl.sum_take Sl.shK l k
  have h2 := Sl.sum_le Sl.shK 65794 (fun x => Nat.le_trans (Sl.encK_len x) (by decide)) l
  omega
end Go.Proofs.Ytdkkcogjkeonkaa
