/- Texts of one seat, merged. -/
import Derived.Test.YtpkoehnjladpoaaD06
import Derived.Test.YtpkoehnjladpoaaD04
import Derived.Test.YtpkoehnjladpoaaD10
import Derived.Test.YtpkoehnjladpoaaD09
import Derived.Shelf.Spec.SlicesInsert
import Derived.Shelf.RegionOpenPlain
set_option maxRecDepth 100000
set_option maxHeartbeats 4000000
set_option linter.unusedVariables false
/- Cells that are read, and a box that is written at last. -/
namespace Go.Proofs.Ytpkoehnjladpoaa
open Go.RowKit
theorem stepP5 {w w1 : World} {b0 b1 b2 b3 b4 i0 i1 i2 i3 i4 : Nat} {x0 x1 x2 x3 x4 : Value} {g B : Nat} {w2 : World} (hB : B ≤ w.heap.size) (H : w1.cell? ⟨b0, i0, none⟩ = some x0 ∧ w1.cell? ⟨b1, i1, none⟩ = some x1 ∧ w1.cell? ⟨b2, i2, none⟩ = some x2 ∧ w1.cell? ⟨b3, i3, none⟩ = some x3 ∧ w1.cell? ⟨b4, i4, none⟩ = some x4 ∧ w1.cell? ⟨g, 0, none⟩ = some (cv w1 g 0) ∧ w1.cell? ⟨g, 1, none⟩ = some (cv w1 g 1) ∧ w1.cell? ⟨g, 2, none⟩ = some (cv w1 g 2) ∧ w1.frozen? ⟨g, 0, none⟩ = false ∧ w1.frozen? ⟨g, 1, none⟩ = false ∧ w1.frozen? ⟨g, 2, none⟩ = false ∧ Below B w w1) (hb : Below w1.heap.size w1 w2) : w2.cell? ⟨b0, i0, none⟩ = some x0 ∧ w2.cell? ⟨b1, i1, none⟩ = some x1 ∧ w2.cell? ⟨b2, i2, none⟩ = some x2 ∧ w2.cell? ⟨b3, i3, none⟩ = some x3 ∧ w2.cell? ⟨b4, i4, none⟩ = some x4 ∧ w2.cell? ⟨g, 0, none⟩ = some (cv w2 g 0) ∧ w2.cell? ⟨g, 1, none⟩ = some (cv w2 g 1) ∧ w2.cell? ⟨g, 2, none⟩ = some (cv w2 g 2) ∧ w2.frozen? ⟨g, 0, none⟩ = false ∧ w2.frozen? ⟨g, 1, none⟩ = false ∧ w2.frozen? ⟨g, 2, none⟩ = false ∧ Below B w w2 := by
  obtain ⟨k0, k1, k2, k3, k4, h2, h3, h4, h5, h6, h7, hq⟩ := H
  have hlt : g < w1.heap.size := World.block_lt_of_cell? _ _ h2
  exact ⟨(hb.cell (p := ⟨b0, i0, none⟩) (World.block_lt_of_cell? _ _ k0)).trans k0, (hb.cell (p := ⟨b1, i1, none⟩) (World.block_lt_of_cell? _ _ k1)).trans k1, (hb.cell (p := ⟨b2, i2, none⟩) (World.block_lt_of_cell? _ _ k2)).trans k2, (hb.cell (p := ⟨b3, i3, none⟩) (World.block_lt_of_cell? _ _ k3)).trans k3, (hb.cell (p := ⟨b4, i4, none⟩) (World.block_lt_of_cell? _ _ k4)).trans k4, cv_of (by rw [hb.cell (p := ⟨g, 0, none⟩) hlt, h2]; rfl), cv_of (by rw [hb.cell (p := ⟨g, 1, none⟩) hlt, h3]; rfl), cv_of (by rw [hb.cell (p := ⟨g, 2, none⟩) hlt, h4]; rfl), (hb.frozen (p := ⟨g, 0, none⟩) hlt).trans h5, (hb.frozen (p := ⟨g, 1, none⟩) hlt).trans h6, (hb.frozen (p := ⟨g, 2, none⟩) hlt).trans h7, hq.trans (hb.mono (Nat.le_trans hB hq.size))⟩
theorem stepP5s {w w1 : World} {b0 b1 b2 b3 b4 i0 i1 i2 i3 i4 : Nat} {x0 x1 x2 x3 x4 : Value} {g B : Nat} {j : Nat} {y : Value} (H : w1.cell? ⟨b0, i0, none⟩ = some x0 ∧ w1.cell? ⟨b1, i1, none⟩ = some x1 ∧ w1.cell? ⟨b2, i2, none⟩ = some x2 ∧ w1.cell? ⟨b3, i3, none⟩ = some x3 ∧ w1.cell? ⟨b4, i4, none⟩ = some x4 ∧ w1.cell? ⟨g, 0, none⟩ = some (cv w1 g 0) ∧ w1.cell? ⟨g, 1, none⟩ = some (cv w1 g 1) ∧ w1.cell? ⟨g, 2, none⟩ = some (cv w1 g 2) ∧ w1.frozen? ⟨g, 0, none⟩ = false ∧ w1.frozen? ⟨g, 1, none⟩ = false ∧ w1.frozen? ⟨g, 2, none⟩ = false ∧ Below B w w1) (h0_ : g ≠ b0) (h1_ : g ≠ b1) (h2_ : g ≠ b2) (h3_ : g ≠ b3) (h4_ : g ≠ b4) (hg : B ≤ g) : (w1.setCell ⟨g, j, none⟩ y).cell? ⟨b0, i0, none⟩ = some x0 ∧ (w1.setCell ⟨g, j, none⟩ y).cell? ⟨b1, i1, none⟩ = some x1 ∧ (w1.setCell ⟨g, j, none⟩ y).cell? ⟨b2, i2, none⟩ = some x2 ∧ (w1.setCell ⟨g, j, none⟩ y).cell? ⟨b3, i3, none⟩ = some x3 ∧ (w1.setCell ⟨g, j, none⟩ y).cell? ⟨b4, i4, none⟩ = some x4 ∧ (w1.setCell ⟨g, j, none⟩ y).cell? ⟨g, 0, none⟩ = some (cv (w1.setCell ⟨g, j, none⟩ y) g 0) ∧ (w1.setCell ⟨g, j, none⟩ y).cell? ⟨g, 1, none⟩ = some (cv (w1.setCell ⟨g, j, none⟩ y) g 1) ∧ (w1.setCell ⟨g, j, none⟩ y).cell? ⟨g, 2, none⟩ = some (cv (w1.setCell ⟨g, j, none⟩ y) g 2) ∧ (w1.setCell ⟨g, j, none⟩ y).frozen? ⟨g, 0, none⟩ = false ∧ (w1.setCell ⟨g, j, none⟩ y).frozen? ⟨g, 1, none⟩ = false ∧ (w1.setCell ⟨g, j, none⟩ y).frozen? ⟨g, 2, none⟩ = false ∧ Below B w (w1.setCell ⟨g, j, none⟩ y) := by
  obtain ⟨k0, k1, k2, k3, k4, h2, h3, h4, h5, h6, h7, hq⟩ := H
  exact ⟨(World.cell?_setCell_far w1 ⟨g, j, none⟩ ⟨b0, i0, none⟩ y h0_).trans k0, (World.cell?_setCell_far w1 ⟨g, j, none⟩ ⟨b1, i1, none⟩ y h1_).trans k1, (World.cell?_setCell_far w1 ⟨g, j, none⟩ ⟨b2, i2, none⟩ y h2_).trans k2, (World.cell?_setCell_far w1 ⟨g, j, none⟩ ⟨b3, i3, none⟩ y h3_).trans k3, (World.cell?_setCell_far w1 ⟨g, j, none⟩ ⟨b4, i4, none⟩ y h4_).trans k4, cv_of (isSome_set (by rw [h2]; rfl)), cv_of (isSome_set (by rw [h3]; rfl)), cv_of (isSome_set (by rw [h4]; rfl)), (World.frozen?_setCell _ _ _ _).trans h5, (World.frozen?_setCell _ _ _ _).trans h6, (World.frozen?_setCell _ _ _ _).trans h7, hq.setCell hg _⟩
theorem lastP5 {w w1 : World} {b0 b1 b2 b3 b4 i0 i1 i2 i3 i4 : Nat} {x0 x1 x2 x3 x4 : Value} {g B : Nat} (H : w1.cell? ⟨b0, i0, none⟩ = some x0 ∧ w1.cell? ⟨b1, i1, none⟩ = some x1 ∧ w1.cell? ⟨b2, i2, none⟩ = some x2 ∧ w1.cell? ⟨b3, i3, none⟩ = some x3 ∧ w1.cell? ⟨b4, i4, none⟩ = some x4 ∧ w1.cell? ⟨g, 0, none⟩ = some (cv w1 g 0) ∧ w1.cell? ⟨g, 1, none⟩ = some (cv w1 g 1) ∧ w1.cell? ⟨g, 2, none⟩ = some (cv w1 g 2) ∧ w1.frozen? ⟨g, 0, none⟩ = false ∧ w1.frozen? ⟨g, 1, none⟩ = false ∧ w1.frozen? ⟨g, 2, none⟩ = false ∧ Below B w w1) : Below B w w1 := H.2.2.2.2.2.2.2.2.2.2.2
theorem ltP5 {w w1 : World} {b0 b1 b2 b3 b4 i0 i1 i2 i3 i4 : Nat} {x0 x1 x2 x3 x4 : Value} {g B : Nat} (H : w1.cell? ⟨b0, i0, none⟩ = some x0 ∧ w1.cell? ⟨b1, i1, none⟩ = some x1 ∧ w1.cell? ⟨b2, i2, none⟩ = some x2 ∧ w1.cell? ⟨b3, i3, none⟩ = some x3 ∧ w1.cell? ⟨b4, i4, none⟩ = some x4 ∧ w1.cell? ⟨g, 0, none⟩ = some (cv w1 g 0) ∧ w1.cell? ⟨g, 1, none⟩ = some (cv w1 g 1) ∧ w1.cell? ⟨g, 2, none⟩ = some (cv w1 g 2) ∧ w1.frozen? ⟨g, 0, none⟩ = false ∧ w1.frozen? ⟨g, 1, none⟩ = false ∧ w1.frozen? ⟨g, 2, none⟩ = false ∧ Below B w w1) : g < w1.heap.size := World.block_lt_of_cell? _ _ H.2.2.2.2.2.1
theorem z3P5 {w w1 : World} {b0 b1 b2 b3 b4 i0 i1 i2 i3 i4 : Nat} {x0 x1 x2 x3 x4 : Value} {g B : Nat} {w2 : World} (H : w1.cell? ⟨b0, i0, none⟩ = some x0 ∧ w1.cell? ⟨b1, i1, none⟩ = some x1 ∧ w1.cell? ⟨b2, i2, none⟩ = some x2 ∧ w1.cell? ⟨b3, i3, none⟩ = some x3 ∧ w1.cell? ⟨b4, i4, none⟩ = some x4 ∧ w1.cell? ⟨g, 0, none⟩ = some (cv w1 g 0) ∧ w1.cell? ⟨g, 1, none⟩ = some (cv w1 g 1) ∧ w1.cell? ⟨g, 2, none⟩ = some (cv w1 g 2) ∧ w1.frozen? ⟨g, 0, none⟩ = false ∧ w1.frozen? ⟨g, 1, none⟩ = false ∧ w1.frozen? ⟨g, 2, none⟩ = false ∧ Below B w w1) (hb : Below w1.heap.size w1 w2) : w2.cell? ⟨g, 0, none⟩ = some (cv w2 g 0) ∧ w2.cell? ⟨g, 1, none⟩ = some (cv w2 g 1) ∧ w2.cell? ⟨g, 2, none⟩ = some (cv w2 g 2) := by
  obtain ⟨_, _, _, _, _, h2, h3, h4, _⟩ := H
  have hlt : g < w1.heap.size := World.block_lt_of_cell? _ _ h2
  exact ⟨cv_of (by rw [hb.cell (p := ⟨g, 0, none⟩) hlt, h2]; rfl), cv_of (by rw [hb.cell (p := ⟨g, 1, none⟩) hlt, h3]; rfl), cv_of (by rw [hb.cell (p := ⟨g, 2, none⟩) hlt, h4]; rfl)⟩
theorem stepP3 {w w1 : World} {b0 b1 b2 i0 i1 i2 : Nat} {x0 x1 x2 : Value} {g B : Nat} {w2 : World} (hB : B ≤ w.heap.size) (H : w1.cell? ⟨b0, i0, none⟩ = some x0 ∧ w1.cell? ⟨b1, i1, none⟩ = some x1 ∧ w1.cell? ⟨b2, i2, none⟩ = some x2 ∧ w1.cell? ⟨g, 0, none⟩ = some (cv w1 g 0) ∧ w1.cell? ⟨g, 1, none⟩ = some (cv w1 g 1) ∧ w1.cell? ⟨g, 2, none⟩ = some (cv w1 g 2) ∧ w1.frozen? ⟨g, 0, none⟩ = false ∧ w1.frozen? ⟨g, 1, none⟩ = false ∧ w1.frozen? ⟨g, 2, none⟩ = false ∧ Below B w w1) (hb : Below w1.heap.size w1 w2) : w2.cell? ⟨b0, i0, none⟩ = some x0 ∧ w2.cell? ⟨b1, i1, none⟩ = some x1 ∧ w2.cell? ⟨b2, i2, none⟩ = some x2 ∧ w2.cell? ⟨g, 0, none⟩ = some (cv w2 g 0) ∧ w2.cell? ⟨g, 1, none⟩ = some (cv w2 g 1) ∧ w2.cell? ⟨g, 2, none⟩ = some (cv w2 g 2) ∧ w2.frozen? ⟨g, 0, none⟩ = false ∧ w2.frozen? ⟨g, 1, none⟩ = false ∧ w2.frozen? ⟨g, 2, none⟩ = false ∧ Below B w w2 := by
  obtain ⟨k0, k1, k2, h2, h3, h4, h5, h6, h7, hq⟩ := H
  have hlt : g < w1.heap.size := World.block_lt_of_cell? _ _ h2
  exact ⟨(hb.cell (p := ⟨b0, i0, none⟩) (World.block_lt_of_cell? _ _ k0)).trans k0, (hb.cell (p := ⟨b1, i1, none⟩) (World.block_lt_of_cell? _ _ k1)).trans k1, (hb.cell (p := ⟨b2, i2, none⟩) (World.block_lt_of_cell? _ _ k2)).trans k2, cv_of (by rw [hb.cell (p := ⟨g, 0, none⟩) hlt, h2]; rfl), cv_of (by rw [hb.cell (p := ⟨g, 1, none⟩) hlt, h3]; rfl), cv_of (by rw [hb.cell (p := ⟨g, 2, none⟩) hlt, h4]; rfl), (hb.frozen (p := ⟨g, 0, none⟩) hlt).trans h5, (hb.frozen (p := ⟨g, 1, none⟩) hlt).trans h6, (hb.frozen (p := ⟨g, 2, none⟩) hlt).trans h7, hq.trans (hb.mono (Nat.le_trans hB hq.size))⟩
theorem stepP3s {w w1 : World} {b0 b1 b2 i0 i1 i2 : Nat} {x0 x1 x2 : Value} {g B : Nat} {j : Nat} {y : Value} (H : w1.cell? ⟨b0, i0, none⟩ = some x0 ∧ w1.cell? ⟨b1, i1, none⟩ = some x1 ∧ w1.cell? ⟨b2, i2, none⟩ = some x2 ∧ w1.cell? ⟨g, 0, none⟩ = some (cv w1 g 0) ∧ w1.cell? ⟨g, 1, none⟩ = some (cv w1 g 1) ∧ w1.cell? ⟨g, 2, none⟩ = some (cv w1 g 2) ∧ w1.frozen? ⟨g, 0, none⟩ = false ∧ w1.frozen? ⟨g, 1, none⟩ = false ∧ w1.frozen? ⟨g, 2, none⟩ = false ∧ Below B w w1) (h0_ : g ≠ b0) (h1_ : g ≠ b1) (h2_ : g ≠ b2) (hg : B ≤ g) : (w1.setCell ⟨g, j, none⟩ y).cell? ⟨b0, i0, none⟩ = some x0 ∧ (w1.setCell ⟨g, j, none⟩ y).cell? ⟨b1, i1, none⟩ = some x1 ∧ (w1.setCell ⟨g, j, none⟩ y).cell? ⟨b2, i2, none⟩ = some x2 ∧ (w1.setCell ⟨g, j, none⟩ y).cell? ⟨g, 0, none⟩ = some (cv (w1.setCell ⟨g, j, none⟩ y) g 0) ∧ (w1.setCell ⟨g, j, none⟩ y).cell? ⟨g, 1, none⟩ = some (cv (w1.setCell ⟨g, j, none⟩ y) g 1) ∧ (w1.setCell ⟨g, j, none⟩ y).cell? ⟨g, 2, none⟩ = some (cv (w1.setCell ⟨g, j, none⟩ y) g 2) ∧ (w1.setCell ⟨g, j, none⟩ y).frozen? ⟨g, 0, none⟩ = false ∧ (w1.setCell ⟨g, j, none⟩ y).frozen? ⟨g, 1, none⟩ = false ∧ (w1.setCell ⟨g, j, none⟩ y).frozen? ⟨g, 2, none⟩ = false ∧ Below B w (w1.setCell ⟨g, j, none⟩ y) := by
  obtain ⟨k0, k1, k2, h2, h3, h4, h5, h6, h7, hq⟩ := H
  exact ⟨(World.cell?_setCell_far w1 ⟨g, j, none⟩ ⟨b0, i0, none⟩ y h0_).trans k0, (World.cell?_setCell_far w1 ⟨g, j, none⟩ ⟨b1, i1, none⟩ y h1_).trans k1, (World.cell?_setCell_far w1 ⟨g, j, none⟩ ⟨b2, i2, none⟩ y h2_).trans k2, cv_of (isSome_set (by rw [h2]; rfl)), cv_of (isSome_set (by rw [h3]; rfl)), cv_of (isSome_set (by rw [h4]; rfl)), (World.frozen?_setCell _ _ _ _).trans h5, (World.frozen?_setCell _ _ _ _).trans h6, (World.frozen?_setCell _ _ _ _).trans h7, hq.setCell hg _⟩
theorem lastP3 {w w1 : World} {b0 b1 b2 i0 i1 i2 : Nat} {x0 x1 x2 : Value} {g B : Nat} (H : w1.cell? ⟨b0, i0, none⟩ = some x0 ∧ w1.cell? ⟨b1, i1, none⟩ = some x1 ∧ w1.cell? ⟨b2, i2, none⟩ = some x2 ∧ w1.cell? ⟨g, 0, none⟩ = some (cv w1 g 0) ∧ w1.cell? ⟨g, 1, none⟩ = some (cv w1 g 1) ∧ w1.cell? ⟨g, 2, none⟩ = some (cv w1 g 2) ∧ w1.frozen? ⟨g, 0, none⟩ = false ∧ w1.frozen? ⟨g, 1, none⟩ = false ∧ w1.frozen? ⟨g, 2, none⟩ = false ∧ Below B w w1) : Below B w w1 := H.2.2.2.2.2.2.2.2.2
theorem ltP3 {w w1 : World} {b0 b1 b2 i0 i1 i2 : Nat} {x0 x1 x2 : Value} {g B : Nat} (H : w1.cell? ⟨b0, i0, none⟩ = some x0 ∧ w1.cell? ⟨b1, i1, none⟩ = some x1 ∧ w1.cell? ⟨b2, i2, none⟩ = some x2 ∧ w1.cell? ⟨g, 0, none⟩ = some (cv w1 g 0) ∧ w1.cell? ⟨g, 1, none⟩ = some (cv w1 g 1) ∧ w1.cell? ⟨g, 2, none⟩ = some (cv w1 g 2) ∧ w1.frozen? ⟨g, 0, none⟩ = false ∧ w1.frozen? ⟨g, 1, none⟩ = false ∧ w1.frozen? ⟨g, 2, none⟩ = false ∧ Below B w w1) : g < w1.heap.size := World.block_lt_of_cell? _ _ H.2.2.2.1
theorem z3P3 {w w1 : World} {b0 b1 b2 i0 i1 i2 : Nat} {x0 x1 x2 : Value} {g B : Nat} {w2 : World} (H : w1.cell? ⟨b0, i0, none⟩ = some x0 ∧ w1.cell? ⟨b1, i1, none⟩ = some x1 ∧ w1.cell? ⟨b2, i2, none⟩ = some x2 ∧ w1.cell? ⟨g, 0, none⟩ = some (cv w1 g 0) ∧ w1.cell? ⟨g, 1, none⟩ = some (cv w1 g 1) ∧ w1.cell? ⟨g, 2, none⟩ = some (cv w1 g 2) ∧ w1.frozen? ⟨g, 0, none⟩ = false ∧ w1.frozen? ⟨g, 1, none⟩ = false ∧ w1.frozen? ⟨g, 2, none⟩ = false ∧ Below B w w1) (hb : Below w1.heap.size w1 w2) : w2.cell? ⟨g, 0, none⟩ = some (cv w2 g 0) ∧ w2.cell? ⟨g, 1, none⟩ = some (cv w2 g 1) ∧ w2.cell? ⟨g, 2, none⟩ = some (cv w2 g 2) := by
  obtain ⟨_, _, _, h2, h3, h4, _⟩ := H
  have hlt : g < w1.heap.size := World.block_lt_of_cell? _ _ h2
  exact ⟨cv_of (by rw [hb.cell (p := ⟨g, 0, none⟩) hlt, h2]; rfl), cv_of (by rw [hb.cell (p := ⟨g, 1, none⟩) hlt, h3]; rfl), cv_of (by rw [hb.cell (p := ⟨g, 2, none⟩) hlt, h4]; rfl)⟩
theorem alloc_below1 (w : World) (o : Obj) : Below w.heap.size w (w.alloc o) := (Below.refl _ _).alloc (Nat.le_refl _) _
theorem startP5 {w w1 : World} {b0 b1 b2 b3 b4 i0 i1 i2 i3 i4 : Nat} {x0 x1 x2 x3 x4 : Value} {g B : Nat} (H : w1.cell? ⟨b0, i0, none⟩ = some x0 ∧ w1.cell? ⟨b1, i1, none⟩ = some x1 ∧ w1.cell? ⟨b2, i2, none⟩ = some x2 ∧ w1.cell? ⟨b3, i3, none⟩ = some x3 ∧ w1.cell? ⟨b4, i4, none⟩ = some x4 ∧ Kp B w (row1 g zn) w1) : w1.cell? ⟨b0, i0, none⟩ = some x0 ∧ w1.cell? ⟨b1, i1, none⟩ = some x1 ∧ w1.cell? ⟨b2, i2, none⟩ = some x2 ∧ w1.cell? ⟨b3, i3, none⟩ = some x3 ∧ w1.cell? ⟨b4, i4, none⟩ = some x4 ∧ w1.cell? ⟨g, 0, none⟩ = some (cv w1 g 0) ∧ w1.cell? ⟨g, 1, none⟩ = some (cv w1 g 1) ∧ w1.cell? ⟨g, 2, none⟩ = some (cv w1 g 2) ∧ w1.frozen? ⟨g, 0, none⟩ = false ∧ w1.frozen? ⟨g, 1, none⟩ = false ∧ w1.frozen? ⟨g, 2, none⟩ = false ∧ Below B w w1 := by
  obtain ⟨k0, k1, k2, k3, k4, hk⟩ := H
  obtain ⟨⟨z0, z1, z2⟩, f0, f1, f2⟩ := hk.zn
  exact ⟨k0, k1, k2, k3, k4, cv_of (by rw [z0]; rfl), cv_of (by rw [z1]; rfl), cv_of (by rw [z2]; rfl), f0, f1, f2, hk.below⟩
theorem startP3 {w w1 : World} {b0 b1 b2 i0 i1 i2 : Nat} {x0 x1 x2 : Value} {g B : Nat} (H : w1.cell? ⟨b0, i0, none⟩ = some x0 ∧ w1.cell? ⟨b1, i1, none⟩ = some x1 ∧ w1.cell? ⟨b2, i2, none⟩ = some x2 ∧ Kp B w (row1 g zn) w1) : w1.cell? ⟨b0, i0, none⟩ = some x0 ∧ w1.cell? ⟨b1, i1, none⟩ = some x1 ∧ w1.cell? ⟨b2, i2, none⟩ = some x2 ∧ w1.cell? ⟨g, 0, none⟩ = some (cv w1 g 0) ∧ w1.cell? ⟨g, 1, none⟩ = some (cv w1 g 1) ∧ w1.cell? ⟨g, 2, none⟩ = some (cv w1 g 2) ∧ w1.frozen? ⟨g, 0, none⟩ = false ∧ w1.frozen? ⟨g, 1, none⟩ = false ∧ w1.frozen? ⟨g, 2, none⟩ = false ∧ Below B w w1 := by
  obtain ⟨k0, k1, k2, hk⟩ := H
  obtain ⟨⟨z0, z1, z2⟩, f0, f1, f2⟩ := hk.zn
  exact ⟨k0, k1, k2, cv_of (by rw [z0]; rfl), cv_of (by rw [z1]; rfl), cv_of (by rw [z2]; rfl), f0, f1, f2, hk.below⟩
end Go.Proofs.Ytpkoehnjladpoaa
/- The contract of a node's Put of a cell (Insert of a kid), at its own sort. -/
namespace Go.Proofs.Ytpkoehnjladpoaa
open Go.RowKit
open Sl (Cl Kd Nd Rn)
set_option maxHeartbeats 4000000 in
theorem putC_any (v : Value) (n : Nd) (x : Cl) (w : World) (hv : NdV w v n) (hlf : n.leaf = true) (hl : n.cs.length ≤ 90000) (hr : Sl.rises Sl.shC n.cs = true) :
    Calls Try.prog 20 #[v, aggC x] w (RetN ⟨true, Sl.putL Sl.shC n.cs x, []⟩ w) := by
  obtain ⟨vc, vk, rfl, hc, hcc, hk, hkk⟩ := hv
  have HWT := Lib.hid (fun W (hW : Below w.heap.size w W) => withC_any vc n.cs x hl hr W (hc.below hW))
  have HLV := Lib.hid (fun W => leaves_any W)
  rw [hlf]
  unfold ndV
  unfold shpC at HLV HWT
  obtain ⟨a, m, c, _, _, _⟩ := hcc
  obtain ⟨a', m', c', _, _, _⟩ := hkk
  clear hc hk hl hr
  generalize n.cs = l at *
  unfold aggC at *
  have hF : Hid (∀ x1 x2, (((w.alloc (.cells #[.bool true, x1, x2] 46)).alloc (.cells #[.string (str x.key), .string (str x.val), .int .u32 x.chain, .int .u32 x.long] 42)).alloc (.cells #[.bool false, .slice none 0 0, .slice none 0 0] 46)).drew.cell? ⟨w.heap.size, 1, none⟩ = some x1 ∧ (((w.alloc (.cells #[.bool true, x1, x2] 46)).alloc (.cells #[.string (str x.key), .string (str x.val), .int .u32 x.chain, .int .u32 x.long] 42)).alloc (.cells #[.bool false, .slice none 0 0, .slice none 0 0] 46)).drew.cell? ⟨w.heap.size + 1, 0, none⟩ = some (.string (str x.key)) ∧ (((w.alloc (.cells #[.bool true, x1, x2] 46)).alloc (.cells #[.string (str x.key), .string (str x.val), .int .u32 x.chain, .int .u32 x.long] 42)).alloc (.cells #[.bool false, .slice none 0 0, .slice none 0 0] 46)).drew.cell? ⟨w.heap.size + 1, 1, none⟩ = some (.string (str x.val)) ∧ (((w.alloc (.cells #[.bool true, x1, x2] 46)).alloc (.cells #[.string (str x.key), .string (str x.val), .int .u32 x.chain, .int .u32 x.long] 42)).alloc (.cells #[.bool false, .slice none 0 0, .slice none 0 0] 46)).drew.cell? ⟨w.heap.size + 1, 2, none⟩ = some (.int .u32 x.chain) ∧ (((w.alloc (.cells #[.bool true, x1, x2] 46)).alloc (.cells #[.string (str x.key), .string (str x.val), .int .u32 x.chain, .int .u32 x.long] 42)).alloc (.cells #[.bool false, .slice none 0 0, .slice none 0 0] 46)).drew.cell? ⟨w.heap.size + 1, 3, none⟩ = some (.int .u32 x.long) ∧ Kp w.heap.size w (row1 (w.heap.size + 1 + 1) zn) (((w.alloc (.cells #[.bool true, x1, x2] 46)).alloc (.cells #[.string (str x.key), .string (str x.val), .int .u32 x.chain, .int .u32 x.long] 42)).alloc (.cells #[.bool false, .slice none 0 0, .slice none 0 0] 46)).drew) := fun x1 x2 => by
    have hS : ((w.alloc (.cells #[.bool true, x1, x2] 46)).alloc (.cells #[.string (str x.key), .string (str x.val), .int .u32 x.chain, .int .u32 x.long] 42)).heap.size = w.heap.size + 1 + 1 := by simp
    have hb := alloc_below1 ((w.alloc (.cells #[.bool true, x1, x2] 46)).alloc (.cells #[.string (str x.key), .string (str x.val), .int .u32 x.chain, .int .u32 x.long] 42)) (.cells #[.bool false, .slice none 0 0, .slice none 0 0] 46)
    have hk := Kp.laid (boxB w (.cells #[.bool true, x1, x2] 46) (.cells #[.string (str x.key), .string (str x.val), .int .u32 x.chain, .int .u32 x.long] 42)) (by rw [hS]; omega) #[.bool false, .slice none 0 0, .slice none 0 0] 46
    rw [hS] at hb hk
    exact ⟨(hb.cell (p := ⟨w.heap.size, 1, none⟩) (show w.heap.size < w.heap.size + 1 + 1 by omega)).trans (box0 w _ _ _ _ 1), (hb.cell (p := ⟨w.heap.size + 1, 0, none⟩) (show w.heap.size + 1 < w.heap.size + 1 + 1 by omega)).trans (box1 w _ _ _ _ 0), (hb.cell (p := ⟨w.heap.size + 1, 1, none⟩) (show w.heap.size + 1 < w.heap.size + 1 + 1 by omega)).trans (box1 w _ _ _ _ 1), (hb.cell (p := ⟨w.heap.size + 1, 2, none⟩) (show w.heap.size + 1 < w.heap.size + 1 + 1 by omega)).trans (box1 w _ _ _ _ 2), (hb.cell (p := ⟨w.heap.size + 1, 3, none⟩) (show w.heap.size + 1 < w.heap.size + 1 + 1 by omega)).trans (box1 w _ _ _ _ 3), hk.drew⟩
  go_enter Try.func20, Try.ntmps20
  go_wp2_with fail
  go_region_held3 (fun w' => w'.cell? ⟨w.heap.size, 1, none⟩ = some (.slice a m c) ∧ w'.cell? ⟨w.heap.size + 1, 0, none⟩ = some (.string (str x.key)) ∧ w'.cell? ⟨w.heap.size + 1, 1, none⟩ = some (.string (str x.val)) ∧ w'.cell? ⟨w.heap.size + 1, 2, none⟩ = some (.int .u32 x.chain) ∧ w'.cell? ⟨w.heap.size + 1, 3, none⟩ = some (.int .u32 x.long) ∧ w'.cell? ⟨w.heap.size + 1 + 1, 0, none⟩ = some (cv w' (w.heap.size + 1 + 1) 0) ∧ w'.cell? ⟨w.heap.size + 1 + 1, 1, none⟩ = some (cv w' (w.heap.size + 1 + 1) 1) ∧ w'.cell? ⟨w.heap.size + 1 + 1, 2, none⟩ = some (cv w' (w.heap.size + 1 + 1) 2) ∧ w'.frozen? ⟨w.heap.size + 1 + 1, 0, none⟩ = false ∧ w'.frozen? ⟨w.heap.size + 1 + 1, 1, none⟩ = false ∧ w'.frozen? ⟨w.heap.size + 1 + 1, 2, none⟩ = false ∧ Below w.heap.size w w')
    ((first | assumption | exact startP5 (hF.out _ _) | exact stepP5 (Nat.le_refl _) ‹_› hb | exact stepP5s (stepP5s (stepP5s ‹_› (by omega) (by omega) (by omega) (by omega) (by omega) (by omega)) (by omega) (by omega) (by omega) (by omega) (by omega) (by omega)) (by omega) (by omega) (by omega) (by omega) (by omega) (by omega)))
    (first
    | (go_at_call 60; (with_reducible refine (HL5.out _).mono ?_); rintro e w6 ⟨rfl, hb⟩; have HZJ := Lib.hid (z3P5 (by assumption) hb); have HR6 := Lib.hid (HR5.out.below hb))
    | (go_at_call 61; (refine (HWT.out _ (lastP5 (by assumption))).mono ?_); rintro e w5 ⟨v5, rfl, hr5, hb⟩; obtain ⟨a5, n5, c5, ha5, hc5, hn5⟩ := hr5.cap; have HCP := Lib.hid (Cap.mk a5 n5 c5 ha5 hc5 hn5); have HQ : Hid (w.heap.size + 1 + 1 < _) := ltP5 (by assumption); have HR5 := Lib.hid (hr5.base (Nat.succ_le_of_lt HQ.out)); have HL5 := Lib.hid (fun W => leaf_any (.slice a5 n5 c5) HCP.out W); unfold ndV at HL5; clear hr5)
    | (go_at_call 56; (with_reducible refine (HLV.out _).mono ?_); rintro e w4 ⟨rfl, hb⟩))
  rename_i hS
  have HB := Lib.hid (lastP5 hS)
  clear hS
  go_wp2
  obtain ⟨z0, z1, z2⟩ := HZJ.out
  refine bodyPost_ret_by (v := ndV true (.slice a5 n5 c5) (.slice none 0 0)) ?_ rfl ?_
  · simp [ndV, results, Try.results20, go_sem, z0, z1, z2]
  · have hq := Nat.lt_succ_self (w.heap.size + 1 + 1)
    exact ⟨_, rfl, ⟨_, _, rfl, (((HR6.out.set hq _).set hq _).set hq _).sl, HCP.out, SlK.nil _, cap_nil⟩, HB.out⟩
end Go.Proofs.Ytpkoehnjladpoaa
/- The contract of slices.Insert of one cell, at a row of one's own. -/
namespace Go.Proofs.Ytpkoehnjladpoaa
open Go.RowKit
open Sl (Cl Kd)
inductive InsOutK (B : Nat) (l : List Kd) (w : World) (e : Ending) (w' : World) : Prop
  | mk (v : Value) (he : e = .returned v) (hr : RowK w' B v l) (hb : Below B w w')
theorem flatAtK (x : Kd) (vb : Nat) (T : TypeId) (w : World) (hvb : w.heap[vb]? = some (.cells (cellsK x).toArray T (0, 0))) : ∀ j u, (cellsK x)[j]? = some u → w.cell? ((⟨vb, 0, none⟩ : Addr).add j) = some u := by
  intro j u hj
  rw [add_plain', Nat.zero_add, cell_of_row w vb j _ T (0, 0) hvb]
  simpa using hj
theorem rowAtK (w : World) (g : Nat) (cur : Array Value) (l : List Kd) (hg : w.heap[g]? = some (.cells cur 52 (0, 0))) (htk : cur.toList.take (l.length * 2) = l.flatMap cellsK) (k : Nat) : ∀ j u, ((l.flatMap cellsK).drop (k * 2))[j]? = some u → w.cell? ((⟨g, k * 2, none⟩ : Addr).add j) = some u := by
  intro j u hj
  rw [add_plain', cell_of_row w g _ _ _ (0, 0) hg]
  rw [List.getElem?_drop, ← htk] at hj
  have hlt := (List.getElem?_eq_some_iff.1 hj).1
  rw [List.length_take] at hlt
  rw [List.getElem?_take_of_lt (by omega)] at hj
  simpa using hj
theorem flat_takeK (l : List Kd) (x : Kd) (i : Nat) : (l.flatMap cellsK).take (i * 2) ++ cellsK x ++ (l.flatMap cellsK).drop (i * 2) = (l.take i ++ x :: l.drop i).flatMap cellsK := by
  have h : ∀ (l : List Kd) (i : Nat), (l.flatMap cellsK).take (i * 2) = (l.take i).flatMap cellsK ∧ (l.flatMap cellsK).drop (i * 2) = (l.drop i).flatMap cellsK := by
    intro l
    induction l with
    | nil => intro i; simp
    | cons y t ih =>
      intro i
      cases i with
      | zero => simp
      | succ i =>
        obtain ⟨h1, h2⟩ := ih i
        have hl := cellsK_len y
        rw [List.flatMap_cons, List.take_succ_cons, List.drop_succ_cons, List.flatMap_cons, show (i + 1) * 2 = (cellsK y).length + i * 2 by rw [hl]; omega, List.take_append, List.drop_append]
        rw [List.take_of_length_le (by omega), List.drop_of_length_le (by omega), Nat.add_sub_cancel_left, h1, h2]
        exact ⟨rfl, rfl⟩
  obtain ⟨h1, h2⟩ := h l i
  rw [h1, h2, List.flatMap_append, List.flatMap_cons, List.append_assoc]
set_option maxHeartbeats 4000000 in
theorem insertK_shift (B g cap i vb vc : Nat) (cur : Array Value) (l : List Kd) (x : Kd) (T : TypeId) (w : World) (hi : i < l.length) (hroom : l.length + 1 ≤ cap) (hcap : cap ≤ maxLen) (hg : w.heap[g]? = some (.cells cur 52 (0, 0))) (hB : B ≤ g) (hsz : cur.size = cap * 2) (htk : cur.toList.take (l.length * 2) = l.flatMap cellsK) (hvb : w.heap[vb]? = some (.cells (cellsK x).toArray T (0, 0))) (hne : vb ≠ g) :
    Calls Try.prog 110 #[.slice (some ⟨g, 0, none⟩) l.length cap, .int .i64 i, .slice (some ⟨vb, 0, none⟩) 1 vc] w (InsOutK B (l.take i ++ x :: l.drop i) w) := by
  obtain ⟨i0, hi0, hz0, hz1, hz2⟩ := info_parts info47
  have hs1 : (Try.prog.info? 52).map (·.size) = some 2 := by rw [hi0]; simp [hz1]
  have hflen : (l.flatMap cellsK).length = l.length * 2 := flat_len _ _ cellsK_len _
  have hfd : ((l.flatMap cellsK).drop (i * 2)).length = (l.length - i) * 2 := by rw [List.length_drop, hflen]; omega
  have hxl := cellsK_len x
  have hxs : (cellsK x).toArray.size = 2 := by simpa using hxl
  have hcl : cur.toList.length = cap * 2 := by simpa using hsz
  have hov : ∀ lb cb, (callFunc 148 #[.slice (some ⟨vb, 0, none⟩) 1 vc, .slice (some ⟨g, (i + 1) * 2, none⟩) lb cb]).run Try.prog w = .ok (.value (.bool false)) w := fun lb cb => by
    rw [run_callFunc_extern Try.func148 (by kernel_rfl) (by kernel_rfl) (by kernel_rfl) (e := Extern.SlicesOverlaps.overlaps #[44, 44] #[4]) (by kernel_rfl),
      Lib.run_overlaps_apart w 44 4 52 Try.underlying44 2 (fun w => by kernel_rfl) ⟨vb, 0, none⟩ ⟨g, (i + 1) * 2, none⟩ 1 vc lb cb hne T 52 2 (cap * 2) (by simp [World.shape?, hvb, hxs]) (by simp [World.shape?, hg, hsz]) (by omega) (by simp [World.frozen?, hvb]) (by simp [World.frozen?, hvb])]
    rfl
  obtain ⟨R1, hR1⟩ : ∃ R1, R1 = cur.toList.take ((i + 1) * 2) ++ (l.flatMap cellsK).drop (i * 2) ++ cur.toList.drop ((i + 1) * 2 + ((l.flatMap cellsK).drop (i * 2)).length) := ⟨_, rfl⟩
  obtain ⟨R2, hR2⟩ : ∃ R2, R2 = R1.take (i * 2) ++ cellsK x ++ R1.drop (i * 2 + (cellsK x).length) := ⟨_, rfl⟩
  have hR1l : R1.length = cap * 2 := by rw [hR1]; simp only [List.length_append, List.length_take, List.length_drop, hcl, hflen]; omega
  have hcp1 : ∀ ty dl dc sl sc, dl = l.length - i → sl = l.length + 1 - i → (Builtin.copy_ #[44, 44] ty #[.slice (some ⟨g, (i + 1) * 2, none⟩) dl dc, .slice (some ⟨g, i * 2, none⟩) sl sc]).run Try.prog w.drew = .ok (goInt (Nat.min sl dl)) (w.drew.setRow g R1.toArray) := fun ty dl dc sl sc h1 h2 => by
    subst h1; subst h2
    rw [hR1]
    exact run_copy_rowS w.drew _ _ ty 52 2 g ((i + 1) * 2) _ dc ⟨g, i * 2, none⟩ _ sc cur 52 ((l.flatMap cellsK).drop (i * 2)) Try.underlying44 hs1 hg (by rw [hfd]; simp only [Nat.min_def]; split <;> omega) (rowAtK w.drew g cur l hg htk i) (by rw [hfd, hsz]; omega) (fun v hv => flat_oneK l v (List.mem_of_mem_drop hv))
  have hcp2 : ∀ (W : World), W.heap = (w.drew.setRow g R1.toArray).heap → ∀ ty dl dc, 1 ≤ dl → (Builtin.copy_ #[44, 44] ty #[.slice (some ⟨g, i * 2, none⟩) dl dc, .slice (some ⟨vb, 0, none⟩) 1 vc]).run Try.prog W = .ok (goInt (Nat.min 1 dl)) (W.setRow g R2.toArray) := fun W hW ty dl dc h1 => by
    have hgW : W.heap[g]? = some (.cells R1.toArray 52 (0, 0)) := by rw [hW]; exact setRow_heap w.drew g cur _ _ _ hg
    have hvW : W.heap[vb]? = some (.cells (cellsK x).toArray T (0, 0)) := by rw [hW, setRow_other w.drew g vb _ hne]; exact hvb
    have := run_copy_rowS (P := Try.prog) W 44 44 ty 52 2 g (i * 2) dl dc ⟨vb, 0, none⟩ 1 vc R1.toArray 52 (cellsK x) Try.underlying44 hs1 hgW (by rw [hxl]; simp only [Nat.min_def]; split <;> omega) (flatAtK x vb T W hvW) (by rw [hxl, List.size_toArray, hR1l]; omega) (fun v hv => cellsK_one x v hv)
    rw [this, hR2]
  have HR : Hid (R2.length = cap * 2 ∧ R2.take ((l.length + 1) * 2) = (l.take i ++ x :: l.drop i).flatMap cellsK) := by
    have e1 : (i + 1) * 2 = i * 2 + 2 := by omega
    rw [e1] at hR1
    refine ⟨?_, ?_⟩
    · rw [hR2, hR1, seg_ins_len (i * 2) (l.length * 2) 2 cur.toList _ _ (by omega) htk (by rw [hcl]; omega) hxl, hcl]
    · rw [show (l.length + 1) * 2 = l.length * 2 + 2 by omega, hR2, hR1, seg_ins (i * 2) (l.length * 2) 2 cur.toList _ _ (by omega) htk (by rw [hcl]; omega) hxl, flat_takeK]
  have HG := Lib.hid hg
  have HB := Lib.hid hB
  have hin : ¬ ((i : Int) = (l.length : Int)) := by omega
  have hb2 : ¬ (cap = i + 1) := by omega
  have hb4 : ¬ (cap = i) := by omega
  have hb5 : i ≤ l.length := by omega
  have hw1 : IntKind.i64.wrap ((i : Int) + 1) = (i : Int) + 1 := IntWalk.i64_in _ (by unfold maxLen at hcap; omega)
  have hw2 : IntKind.i64.wrap ((l.length : Int) + 1) = (l.length : Int) + 1 := IntWalk.i64_in _ (by unfold maxLen at hcap; omega)
  have HCAP := Lib.hid hcap
  unfold maxLen at hcap
  have hb1 : (0 : Int) ≤ (i : Int) + 1 := by omega
  have htn : ((i : Int) + 1).toNat = i + 1 := by omega
  have htn2 : ((l.length : Int) + 1).toNat = l.length + 1 := by omega
  have HROOM := Lib.hid hroom
  have hb3 : (i : Int) ≤ (l.length : Int) + 1 := by omega
  have mixed : Try.prog.follows Departure.mixedOrders = true := by kernel_rfl
  clear hR1 hR2 hR1l hflen hfd hxs hcl hsz htk hvb hg hs1 hi0 hz0 hz1 hz2 hxl
  go_enter Try.func110, Try.ntmps110
  go_wp2_with (simp only [hov])
  go_region_law_o (refine Go.Proofs.step_copy_runI rfl _ _ 44 44 rfl _ _ (by simp [Act.eval, Act.put]) (by simp [Act.eval, Act.put]) (hcp1 _ _ _ _ _ (by omega) (by omega)) ?_)
  go_wp2_with (refine Go.Proofs.wpList_copy_runI (o := ⟨some 82, _, _, _, _, _⟩) _ rfl _ _ 44 44 rfl _ _ rfl rfl (hcp2 _ rfl _ _ _ (by omega)) ?_)
  go_ret
  refine ⟨_, rfl, ?_, ?_⟩
  · have hgW : (w.drew.setRow g R1.toArray).heap[g]? = some (.cells R1.toArray 52 (0, 0)) := setRow_heap w.drew g cur _ _ _ HG.out
    have hlen : (l.take i ++ x :: l.drop i).length = l.length + 1 := by simp only [List.length_append, List.length_take, List.length_cons, List.length_drop]; omega
    show World.ownsRow _ _ _ _ _ _ _
    rw [hlen]
    exact owns_setRow hgW HB.out HROOM.out HCAP.out HR.out.1 (by rw [flat_len _ _ cellsK_len _, hlen]) HR.out.2
  · exact below_setRow (below_setRow (Below.refl _ _).drew HB.out _) HB.out _
end Go.Proofs.Ytpkoehnjladpoaa
/- The contract of slices.Insert of one cell, at a row of one's own: at its end, and where there is no room. -/
namespace Go.Proofs.Ytpkoehnjladpoaa
open Go.RowKit
open Sl (Cl Kd)
theorem insertK_end (B vb vc : Nat) (v : Value) (l : List Kd) (x : Kd) (T : TypeId) (w : World) (hv : RowK w B v l) (hB : B ≤ w.heap.size) (hl : l.length ≤ 100000) (hvb : w.heap[vb]? = some (.cells (cellsK x).toArray T (0, 0))) :
    Calls Try.prog 110 #[v, .int .i64 l.length, .slice (some ⟨vb, 0, none⟩) 1 vc] w (InsOutK B (l ++ [x]) w) := by
  obtain ⟨i0, hi0, hz0, hz1, hz2⟩ := info_parts info47
  have HOWN := Lib.hid hv
  have HLO := Lib.hid (fun k hk => (World.ownsRow.lt hv k hk).1)
  have HF := Lib.hid (flatAtK x vb T w hvb)
  have HXL := Lib.hid (show (cellsK x).length = 1 * 2 from cellsK_len x)
  have HX1 := Lib.hid (fun u hu => cellsK_one x u hu)
  have HFIN : Hid (∀ v' w1, w1.ownsRow B 52 2 v' (l.length + 1) (l.flatMap cellsK ++ cellsK x) → RowK w1 B v' (l ++ [x])) := fun v' w1 h => by
    show World.ownsRow _ _ _ _ _ _ _
    rw [List.length_append, List.flatMap_append]
    simpa using h
  obtain ⟨_, h1⟩ := hv
  rcases h1 with ⟨rfl, h0⟩ | ⟨g, cap, cur, rfl, hg, _, hn, hm, _, _⟩
  · obtain rfl : l = [] := List.length_eq_zero_iff.1 h0
    clear hvb
    go_enter Try.func110, Try.ntmps110
    go_wp2_with (at_builtin; refine wpList_append_own _ rfl _ _ 44 rfl B 52 i0 _ 2 24 Try.underlying44 hi0 hz0 hz1 hz2 rfl (by decide) _ 0 _ rfl HOWN.out ⟨vb, 0, none⟩ 1 vc (cellsK x) rfl HXL.out HF.out HX1.out (by unfold maxLen; omega) (by omega) hB ?_)
    intro v' w1 hown hgrow _
    go_wp2
    go_ret
    exact ⟨_, rfl, HFIN.out _ _ hown, (Below.refl _ _).grown hgrow hB (fun k hk => by simp [Value.ownBlock] at hk)⟩
  · unfold maxLen at hm
    clear hvb
    by_cases hcn : cap = l.length
    all_goals
      try subst hcn
      go_enter Try.func110, Try.ntmps110
      go_wp2_with (at_builtin; refine wpList_append_own _ rfl _ _ 44 rfl B 52 i0 _ 2 24 Try.underlying44 hi0 hz0 hz1 hz2 rfl (by decide) _ l.length _ rfl HOWN.out ⟨vb, 0, none⟩ 1 vc (cellsK x) rfl HXL.out HF.out HX1.out (by unfold maxLen; omega) (by omega) hB ?_)
      intro v' w1 hown hgrow _
      go_wp2
      go_ret
      exact ⟨_, rfl, HFIN.out _ _ hown, (Below.refl _ _).grown hgrow hB HLO.out⟩
theorem zeros_lenK (z : Array Value) (n : Nat) : (Builtin.zeroCells z n).size = n * z.size := by simp [Builtin.zeroCells]
set_option maxHeartbeats 8000000 in
theorem insertK_grow (B g cap i vb vc : Nat) (cur : Array Value) (l : List Kd) (x : Kd) (T : TypeId) (w : World) (hi : i < l.length) (hnc : l.length ≤ cap) (hroom : ¬ l.length + 1 ≤ cap) (hl : l.length ≤ 100000) (hB : B ≤ w.heap.size) (hg : w.heap[g]? = some (.cells cur 52 (0, 0))) (htk : cur.toList.take (l.length * 2) = l.flatMap cellsK) (hvb : w.heap[vb]? = some (.cells (cellsK x).toArray T (0, 0))) :
    Calls Try.prog 110 #[.slice (some ⟨g, 0, none⟩) l.length cap, .int .i64 i, .slice (some ⟨vb, 0, none⟩) 1 vc] w (InsOutK B (l.take i ++ x :: l.drop i) w) := by
  obtain ⟨i0, hi0, hz0, hz1, hz2⟩ := info_parts info47
  obtain rfl : cap = l.length := by omega
  obtain ⟨z, hzz, hzs⟩ : ∃ z, i0.zero = some z ∧ z.cells.size = 2 := ⟨_, hz0, rfl⟩
  have hs1 : (Try.prog.info? 52).map (·.size) = some 2 := by rw [hi0]; simp [hz1]
  have hflen : (l.flatMap cellsK).length = l.length * 2 := flat_len _ _ cellsK_len _
  have hxl := cellsK_len x
  have hglt : g < w.heap.size := (Array.getElem?_eq_some_iff.1 hg).1
  have hvlt : vb < w.heap.size := (Array.getElem?_eq_some_iff.1 hvb).1
  have hrow : ∀ k, ∀ j u, ((l.flatMap cellsK).drop (k * 2))[j]? = some u → w.cell? ((⟨g, k * 2, none⟩ : Addr).add j) = some u := rowAtK w g cur l hg htk
  have hold : (Builtin.firstCells i0.size i (.slice (some ⟨g, 0, none⟩) i l.length)).run Try.prog w.drew = .ok ((l.flatMap cellsK).take (i * 2)).toArray w.drew := by
    rw [hz1]
    exact run_firstCells_some w.drew 2 i ⟨g, 0, none⟩ i l.length ((l.flatMap cellsK).take (i * 2)) (by rw [List.length_take, hflen]; omega) (fun j u hj => by
      have hj2 := (List.getElem?_eq_some_iff.1 hj).1
      rw [List.length_take] at hj2
      rw [List.getElem?_take_of_lt (by omega)] at hj
      exact hrow 0 j u (by rw [Nat.zero_mul, List.drop_zero]; exact hj))
  obtain ⟨G, hG⟩ : ∃ G, G = grownCap w (l.length + 1) l.length 52 := ⟨_, rfl⟩
  have hrz : ∀ ty, (Builtin.append_ #[44, 3] ty #[.slice (some ⟨g, 0, none⟩) i l.length, .int .i64 ((l.length : Int) + 1 - (i : Int))]).run Try.prog w =
      .ok (.slice (some ⟨w.heap.size, 0, none⟩) (l.length + 1) G) (w.drew.alloc (.cells (((l.flatMap cellsK).take (i * 2)).toArray ++ Builtin.zeroCells z.cells (l.length + 1 - i) ++ Builtin.zeroCells z.cells (G - (l.length + 1))) 52)) := fun ty => by
    have hik : i + (l.length + 1 - i) = l.length + 1 := by omega
    have h := Lib.run_append_grow_zeros w 44 3 ty 52 i0 _ .i64 .i64 Try.underlying44 Try.underlying3 hi0 hzz (some ⟨g, 0, none⟩) i l.length _ hold (l.length + 1 - i) (by omega) (by rw [hz1]; decide) (by omega) (by omega) (by rw [hz2]; omega) (by rw [hz2, hik]; exact growslice_fits (by omega) (by omega))
    rw [hik, ← hG] at h
    rw [show (l.length : Int) + 1 - (i : Int) = ((l.length + 1 - i : Nat) : Int) by omega]
    exact h
  obtain ⟨R0, hR0⟩ : ∃ R0 : Array Value, R0 = ((l.flatMap cellsK).take (i * 2)).toArray ++ Builtin.zeroCells z.cells (l.length + 1 - i) ++ Builtin.zeroCells z.cells (G - (l.length + 1)) := ⟨_, rfl⟩
  rw [← hR0] at hrz
  have hGn : l.length + 1 ≤ G := by rw [hG]; exact grownCap_ge w _ _ _
  have hGm : G ≤ maxLen := by rw [hG]; exact grownCap_le_maxLen w (l.length + 1) l.length 52 (by unfold maxLen; omega)
  have hR0l : R0.toList.length = G * 2 := by
    rw [hR0]
    simp only [Array.toList_append, List.length_append, Array.length_toList, zeros_lenK, hzs, List.length_take, hflen]
    omega
  have hR0t : R0.toList.take (i * 2) = (l.flatMap cellsK).take (i * 2) := by
    rw [hR0]
    simp only [Array.toList_append, List.append_assoc]
    rw [List.take_append_of_le_length (by rw [List.length_take, hflen]; omega), List.take_of_length_le (by rw [List.length_take]; omega)]
  obtain ⟨R1, hR1⟩ : ∃ R1, R1 = R0.toList.take (i * 2) ++ cellsK x ++ R0.toList.drop (i * 2 + (cellsK x).length) := ⟨_, rfl⟩
  obtain ⟨R2, hR2⟩ : ∃ R2, R2 = R1.take ((i + 1) * 2) ++ (l.flatMap cellsK).drop (i * 2) ++ R1.drop ((i + 1) * 2 + ((l.flatMap cellsK).drop (i * 2)).length) := ⟨_, rfl⟩
  have hR1l : R1.length = G * 2 := by rw [hR1]; simp only [List.length_append, List.length_take, List.length_drop, hR0l, hxl]; omega
  have hh0 : ∀ W : World, W.heap = (w.alloc (.cells R0 52)).heap → W.heap[w.heap.size]? = some (.cells R0 52 (0, 0)) := fun W hW => by rw [hW]; exact heap_alloc_new w _
  have hvW : ∀ W : World, W.heap = (w.alloc (.cells R0 52)).heap → W.heap[vb]? = some (.cells (cellsK x).toArray T (0, 0)) := fun W hW => by rw [hW, Below.heap_alloc w _ vb hvlt]; exact hvb
  have hcpA : ∀ (W : World), W.heap = (w.alloc (.cells R0 52)).heap → ∀ ty dl dc, 1 ≤ dl → (Builtin.copy_ #[44, 44] ty #[.slice (some ⟨w.heap.size, i * 2, none⟩) dl dc, .slice (some ⟨vb, 0, none⟩) 1 vc]).run Try.prog W = .ok (goInt (Nat.min 1 dl)) (W.setRow w.heap.size R1.toArray) := fun W hW ty dl dc h1 => by
    have := run_copy_rowS (P := Try.prog) W 44 44 ty 52 2 w.heap.size (i * 2) dl dc ⟨vb, 0, none⟩ 1 vc R0 52 (cellsK x) Try.underlying44 hs1 (hh0 W hW) (by rw [hxl]; simp only [Nat.min_def]; split <;> omega) (flatAtK x vb T W (hvW W hW)) (by rw [hxl, ← Array.length_toList, hR0l]; omega) (fun v hv => cellsK_one x v hv)
    rw [this, hR1]
  have hcpB : ∀ (W : World), W.heap = ((w.alloc (.cells R0 52)).setRow w.heap.size R1.toArray).heap → ∀ ty dl dc sl sc, dl = l.length - i → sl = l.length - i → (Builtin.copy_ #[44, 44] ty #[.slice (some ⟨w.heap.size, (i + 1) * 2, none⟩) dl dc, .slice (some ⟨g, i * 2, none⟩) sl sc]).run Try.prog W = .ok (goInt (Nat.min sl dl)) (W.setRow w.heap.size R2.toArray) := fun W hW ty dl dc sl sc h1 h2 => by
    subst h1; subst h2
    have hgW : W.heap[w.heap.size]? = some (.cells R1.toArray 52 (0, 0)) := by rw [hW]; exact setRow_heap _ _ R0 _ _ _ (heap_alloc_new w _)
    have hgg : W.heap[g]? = some (.cells cur 52 (0, 0)) := by rw [hW, setRow_other _ _ g _ (by omega), Below.heap_alloc w _ g hglt]; exact hg
    have hfd : ((l.flatMap cellsK).drop (i * 2)).length = (l.length - i) * 2 := by rw [List.length_drop, hflen]; omega
    have := run_copy_rowS (P := Try.prog) W 44 44 ty 52 2 w.heap.size ((i + 1) * 2) (l.length - i) dc ⟨g, i * 2, none⟩ (l.length - i) sc R1.toArray 52 ((l.flatMap cellsK).drop (i * 2)) Try.underlying44 hs1 hgW (by rw [hfd]; simp only [Nat.min_def]; split <;> omega) (rowAtK W g cur l hgg htk i) (by rw [hfd, List.size_toArray, hR1l]; omega) (fun v hv => flat_oneK l v (List.mem_of_mem_drop hv))
    rw [this, hR2]
  have HR : Hid (R2.length = G * 2 ∧ R2.take ((l.length + 1) * 2) = (l.take i ++ x :: l.drop i).flatMap cellsK) := by
    have e1 : (i + 1) * 2 = i * 2 + 2 := by omega
    rw [e1] at hR2
    refine ⟨?_, ?_⟩
    · rw [hR2, hR1, seg_ins2_len (i * 2) (l.length * 2) 2 R0.toList _ _ (by omega) hflen (by rw [hR0l]; omega) hxl, hR0l]
    · rw [show (l.length + 1) * 2 = l.length * 2 + 2 by omega, hR2, hR1, seg_ins2 (i * 2) (l.length * 2) 2 R0.toList _ _ (by omega) hflen hR0t (by rw [hR0l]; omega) hxl, flat_takeK]
  have HB := Lib.hid hB
  have HGN := Lib.hid hGn
  have HGM := Lib.hid hGm
  unfold maxLen at hGm
  have hin : ¬ ((i : Int) = (l.length : Int)) := by omega
  have hb4 : ¬ (l.length = i) := by omega
  have hb5 : i ≤ l.length := by omega
  have hb6 : ¬ (G = i) := by omega
  have hb7 : ¬ (G = i + 1) := by omega
  have hw1 : IntKind.i64.wrap ((i : Int) + 1) = (i : Int) + 1 := IntWalk.i64_in _ (by omega)
  have hw2 : IntKind.i64.wrap ((l.length : Int) + 1) = (l.length : Int) + 1 := IntWalk.i64_in _ (by omega)
  have hw3 : IntKind.i64.wrap ((l.length : Int) + 1 - (i : Int)) = (l.length : Int) + 1 - (i : Int) := IntWalk.i64_in _ (by omega)
  have hb1 : (0 : Int) ≤ (i : Int) + 1 := by omega
  have htn : ((i : Int) + 1).toNat = i + 1 := by omega
  have hb3 : (i : Int) ≤ (l.length : Int) + 1 := by omega
  have mixed : Try.prog.follows Departure.mixedOrders = true := by kernel_rfl
  clear hR0 hR1 hR2 hR0l hR0t hR1l hh0 hvW hflen htk hvb hg hs1 hi0 hz0 hz1 hz2 hxl hzz hzs hrow hold hG hglt hvlt hroom hnc
  go_enter Try.func110, Try.ntmps110
  go_wp2_with (first
    | (at_builtin; refine Lib.wpList_append_run _ rfl _ _ _ _ rfl _ _ rfl rfl _ _ (hrz _) ?_)
    | (refine Go.Proofs.wpList_copy_runI (o := ⟨some 45, _, _, _, _, _⟩) _ rfl _ _ 44 44 rfl _ _ rfl rfl (hcpA (w.alloc (.cells R0 52)).drew rfl _ _ _ (by omega)) ?_))
  go_region_law_o (refine Go.Proofs.step_copy_runI rfl _ _ 44 44 rfl (.slice (some ⟨w.heap.size, (i + 1) * 2, none⟩) (l.length - i) (G - (i + 1))) (.slice (some ⟨g, i * 2, none⟩) (l.length - i) (l.length - i)) (by simp [Act.eval, Act.put]) (by simp [Act.eval, Act.put]) (hcpB (((w.alloc (.cells R0 52)).drew.setRow w.heap.size R1.toArray).drew) rfl 3 _ _ _ _ rfl rfl) ?_)
  go_wp2
  go_ret
  refine ⟨_, rfl, ?_, ?_⟩
  · have hgW : ((w.alloc (.cells R0 52)).drew.setRow w.heap.size R1.toArray).drew.heap[w.heap.size]? = some (.cells R1.toArray 52 (0, 0)) := setRow_heap _ _ R0 _ _ _ (heap_alloc_new w _)
    have hlen : (l.take i ++ x :: l.drop i).length = l.length + 1 := by simp only [List.length_append, List.length_take, List.length_cons, List.length_drop]; omega
    show World.ownsRow _ _ _ _ _ _ _
    rw [hlen]
    exact owns_setRow hgW HB.out HGN.out HGM.out HR.out.1 (by rw [flat_len _ _ cellsK_len _, hlen]) HR.out.2
  · exact below_setRow (below_setRow ((Below.refl _ _).alloc HB.out _).drew HB.out _).drew HB.out _
end Go.Proofs.Ytpkoehnjladpoaa
