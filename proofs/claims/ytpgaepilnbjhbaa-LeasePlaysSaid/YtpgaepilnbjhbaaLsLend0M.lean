/- A box of a loan; what is kept while a table is made. -/
import Derived.Test.YtpgaepilnbjhbaaLsFreeM
import Derived.Test.YtpgaepilnbjhbaaLsBinM
set_option maxRecDepth 100000
set_option maxHeartbeats 4000000
set_option linter.unusedVariables false
namespace Go.Proofs.Ytpgaepilnbjhbaa
open Go.RowKit
open Ls (Txt Ln Ms sameL sameM low Mono)
/-- A box of a loan. -/
def BoxM (W : World) (g : Nat) (x : Ms) : Prop := W.heap[g]? = some (.cells #[.string (str x.s), .int .u64 x.t] 88)
theorem BoxM.lt {w : World} {g : Nat} {x : Ms} (h : BoxM w g x) : g < w.heap.size := (Array.getElem?_eq_some_iff.1 h).1
theorem BoxM.below {w w' : World} {g : Nat} {x : Ms} (h : BoxM w g x) (hb : Below w.heap.size w w') : BoxM w' g x := (hb.block g h.lt).trans h
theorem BoxM.cells {w : World} {g : Nat} {x : Ms} (h : BoxM w g x) : w.cell? ⟨g, 0, none⟩ = some (.string (str x.s)) ∧ w.cell? ⟨g, 1, none⟩ = some (.int .u64 x.t) := by
  have h' : w.heap[g]? = _ := h
  simp [World.cell?, h']
theorem set3KM {w w1 : World} {B b0 b1 g : Nat} {x0 x1 x2 x3 y0 y1 y2 : Value} (H : w1.cell? ⟨b0, 0, none⟩ = some x0 ∧ w1.cell? ⟨b0, 1, none⟩ = some x1 ∧ w1.cell? ⟨b1, 0, none⟩ = some x2 ∧ w1.cell? ⟨b1, 1, none⟩ = some x3 ∧ Below B w w1) (h0 : b0 < g) (h1 : b1 < g) (hg : B ≤ g) : (((w1.setCell ⟨g, 0, none⟩ y0).setCell ⟨g, 1, none⟩ y1).setCell ⟨g, 2, none⟩ y2).cell? ⟨b0, 0, none⟩ = some x0 ∧ (((w1.setCell ⟨g, 0, none⟩ y0).setCell ⟨g, 1, none⟩ y1).setCell ⟨g, 2, none⟩ y2).cell? ⟨b0, 1, none⟩ = some x1 ∧ (((w1.setCell ⟨g, 0, none⟩ y0).setCell ⟨g, 1, none⟩ y1).setCell ⟨g, 2, none⟩ y2).cell? ⟨b1, 0, none⟩ = some x2 ∧ (((w1.setCell ⟨g, 0, none⟩ y0).setCell ⟨g, 1, none⟩ y1).setCell ⟨g, 2, none⟩ y2).cell? ⟨b1, 1, none⟩ = some x3 ∧ Below B w (((w1.setCell ⟨g, 0, none⟩ y0).setCell ⟨g, 1, none⟩ y1).setCell ⟨g, 2, none⟩ y2) := by
  obtain ⟨k0, k1, k2, k3, hq⟩ := H
  have far : ∀ (W : World) (i j b : Nat) (y : Value), b < g → (W.setCell ⟨g, i, none⟩ y).cell? ⟨b, j, none⟩ = W.cell? ⟨b, j, none⟩ := fun W i j b y hb => World.cell?_setCell_far W ⟨g, i, none⟩ ⟨b, j, none⟩ y (by show g ≠ b; omega)
  refine ⟨?_, ?_, ?_, ?_, ((hq.setCell hg _).setCell hg _).setCell hg _⟩
  · rw [far _ _ _ _ _ h0, far _ _ _ _ _ h0, far _ _ _ _ _ h0]; exact k0
  · rw [far _ _ _ _ _ h0, far _ _ _ _ _ h0, far _ _ _ _ _ h0]; exact k1
  · rw [far _ _ _ _ _ h1, far _ _ _ _ _ h1, far _ _ _ _ _ h1]; exact k2
  · rw [far _ _ _ _ _ h1, far _ _ _ _ _ h1, far _ _ _ _ _ h1]; exact k3
theorem rowOneM (W : World) (x : Ms) (g : Nat) (hg : W.heap.size = g) : SlG cM 2 (W.alloc (.cells (cM x).toArray 88)) (.slice (some ⟨g, 0, none⟩) 1 1) [x] := by
  refine ⟨_, g, 0, 1, rfl, Nat.le_refl _, by unfold maxLen; omega, (fun h => by cases h), .inr rfl, ?_⟩
  intro j y hj i u hu'
  cases j with
  | succ j => simp at hj
  | zero =>
    simp at hj
    subst hj hg
    rw [Nat.zero_mul, Nat.zero_add, World.cell?_alloc_new]
    simpa using hu'
theorem firstGM {w w1 : World} {b0 g b2 B : Nat} {t t' : TypeId} {x0 x1 z0 z1 y0 y1 : Value} (hT : Boxed2 w1 b0 t x0 x1) (hR : Boxed2 w1 g t' z0 z1) (hm : w1.cell? ⟨b2, 0, none⟩ = some y0 ∧ w1.cell? ⟨b2, 1, none⟩ = some y1) (hb : Below B w w1) : w1.cell? ⟨b0, 0, none⟩ = some x0 ∧ w1.cell? ⟨b0, 1, none⟩ = some x1 ∧ w1.cell? ⟨g, 0, none⟩ = some (cv w1 g 0) ∧ w1.cell? ⟨g, 1, none⟩ = some (cv w1 g 1) ∧ w1.frozen? ⟨g, 0, none⟩ = false ∧ w1.frozen? ⟨g, 1, none⟩ = false ∧ w1.cell? ⟨b2, 0, none⟩ = some y0 ∧ w1.cell? ⟨b2, 1, none⟩ = some y1 ∧ Below B w w1 :=
  ⟨hT.c0, hT.c1, cv_of (by rw [hR.c0]; rfl), cv_of (by rw [hR.c1]; rfl), hR.f0, hR.f1, hm.1, hm.2, hb⟩
theorem stepGM {w w1 w2 : World} {b0 g b2 B : Nat} {x0 x1 y0 y1 : Value} (hB : B ≤ w.heap.size) (H : w1.cell? ⟨b0, 0, none⟩ = some x0 ∧ w1.cell? ⟨b0, 1, none⟩ = some x1 ∧ w1.cell? ⟨g, 0, none⟩ = some (cv w1 g 0) ∧ w1.cell? ⟨g, 1, none⟩ = some (cv w1 g 1) ∧ w1.frozen? ⟨g, 0, none⟩ = false ∧ w1.frozen? ⟨g, 1, none⟩ = false ∧ w1.cell? ⟨b2, 0, none⟩ = some y0 ∧ w1.cell? ⟨b2, 1, none⟩ = some y1 ∧ Below B w w1) (hb : Below w1.heap.size w1 w2) : w2.cell? ⟨b0, 0, none⟩ = some x0 ∧ w2.cell? ⟨b0, 1, none⟩ = some x1 ∧ w2.cell? ⟨g, 0, none⟩ = some (cv w2 g 0) ∧ w2.cell? ⟨g, 1, none⟩ = some (cv w2 g 1) ∧ w2.frozen? ⟨g, 0, none⟩ = false ∧ w2.frozen? ⟨g, 1, none⟩ = false ∧ w2.cell? ⟨b2, 0, none⟩ = some y0 ∧ w2.cell? ⟨b2, 1, none⟩ = some y1 ∧ Below B w w2 := by
  obtain ⟨h0, h1, h2, h3, h5, h6, m0, m1, hq⟩ := H
  obtain ⟨k0, k1, k2, k3, k4, k5, k6⟩ := stepF hB ⟨h0, h1, h2, h3, h5, h6, hq⟩ hb
  exact ⟨k0, k1, k2, k3, k4, k5, (hb.cell (p := ⟨b2, 0, none⟩) (World.block_lt_of_cell? _ _ m0)).trans m0, (hb.cell (p := ⟨b2, 1, none⟩) (World.block_lt_of_cell? _ _ m1)).trans m1, k6⟩
theorem stepGsM {w w1 : World} {b0 g b2 B j : Nat} {x0 x1 y0 y1 y : Value} (H : w1.cell? ⟨b0, 0, none⟩ = some x0 ∧ w1.cell? ⟨b0, 1, none⟩ = some x1 ∧ w1.cell? ⟨g, 0, none⟩ = some (cv w1 g 0) ∧ w1.cell? ⟨g, 1, none⟩ = some (cv w1 g 1) ∧ w1.frozen? ⟨g, 0, none⟩ = false ∧ w1.frozen? ⟨g, 1, none⟩ = false ∧ w1.cell? ⟨b2, 0, none⟩ = some y0 ∧ w1.cell? ⟨b2, 1, none⟩ = some y1 ∧ Below B w w1) (h0 : g ≠ b0) (h2 : g ≠ b2) (hg : B ≤ g) : (w1.setCell ⟨g, j, none⟩ y).cell? ⟨b0, 0, none⟩ = some x0 ∧ (w1.setCell ⟨g, j, none⟩ y).cell? ⟨b0, 1, none⟩ = some x1 ∧ (w1.setCell ⟨g, j, none⟩ y).cell? ⟨g, 0, none⟩ = some (cv (w1.setCell ⟨g, j, none⟩ y) g 0) ∧ (w1.setCell ⟨g, j, none⟩ y).cell? ⟨g, 1, none⟩ = some (cv (w1.setCell ⟨g, j, none⟩ y) g 1) ∧ (w1.setCell ⟨g, j, none⟩ y).frozen? ⟨g, 0, none⟩ = false ∧ (w1.setCell ⟨g, j, none⟩ y).frozen? ⟨g, 1, none⟩ = false ∧ (w1.setCell ⟨g, j, none⟩ y).cell? ⟨b2, 0, none⟩ = some y0 ∧ (w1.setCell ⟨g, j, none⟩ y).cell? ⟨b2, 1, none⟩ = some y1 ∧ Below B w (w1.setCell ⟨g, j, none⟩ y) := by
  obtain ⟨k0, k1, k2, k3, k5, k6, m0, m1, hq⟩ := H
  obtain ⟨c0, c1, c2, c3, c4, c5, c6⟩ := stepFs (j := j) (y := y) ⟨k0, k1, k2, k3, k5, k6, hq⟩ h0 hg
  exact ⟨c0, c1, c2, c3, c4, c5, (World.cell?_setCell_far w1 ⟨g, j, none⟩ ⟨b2, 0, none⟩ y h2).trans m0, (World.cell?_setCell_far w1 ⟨g, j, none⟩ ⟨b2, 1, none⟩ y h2).trans m1, c6⟩
theorem zGM {w w1 w2 : World} {b0 g b2 B : Nat} {x0 x1 y0 y1 : Value} (H : w1.cell? ⟨b0, 0, none⟩ = some x0 ∧ w1.cell? ⟨b0, 1, none⟩ = some x1 ∧ w1.cell? ⟨g, 0, none⟩ = some (cv w1 g 0) ∧ w1.cell? ⟨g, 1, none⟩ = some (cv w1 g 1) ∧ w1.frozen? ⟨g, 0, none⟩ = false ∧ w1.frozen? ⟨g, 1, none⟩ = false ∧ w1.cell? ⟨b2, 0, none⟩ = some y0 ∧ w1.cell? ⟨b2, 1, none⟩ = some y1 ∧ Below B w w1) (hb : Below w1.heap.size w1 w2) : w2.cell? ⟨g, 0, none⟩ = some (cv w2 g 0) ∧ w2.cell? ⟨g, 1, none⟩ = some (cv w2 g 1) := by
  obtain ⟨h0, h1, h2, h3, h5, h6, m0, m1, hq⟩ := H
  exact zF ⟨h0, h1, h2, h3, h5, h6, hq⟩ hb
theorem lastGM {w w1 : World} {b0 g b2 B : Nat} {x0 x1 y0 y1 : Value} (H : w1.cell? ⟨b0, 0, none⟩ = some x0 ∧ w1.cell? ⟨b0, 1, none⟩ = some x1 ∧ w1.cell? ⟨g, 0, none⟩ = some (cv w1 g 0) ∧ w1.cell? ⟨g, 1, none⟩ = some (cv w1 g 1) ∧ w1.frozen? ⟨g, 0, none⟩ = false ∧ w1.frozen? ⟨g, 1, none⟩ = false ∧ w1.cell? ⟨b2, 0, none⟩ = some y0 ∧ w1.cell? ⟨b2, 1, none⟩ = some y1 ∧ Below B w w1) : Below B w w1 := by
  obtain ⟨h0, h1, h2, h3, h5, h6, m0, m1, hq⟩ := H
  exact hq
/-- What is kept within Lend: the table's box, the answer's, a box of the loan, the row of the others. -/
structure LJM (w : World) (fn sl : Value) (l : List Ms) (x : Ms) (gb : Nat) (v : Value) (wx : World) : Prop where
  T : Boxed2 wx w.heap.size 62 fn sl
  R : Boxed2 wx (w.heap.size + 1) 62 .nilFunc (.slice none 0 0)
  B : BoxM wx gb x
  G : w.heap.size + 1 < gb
  S : SlG cM 2 wx v l
  W : Below w.heap.size w wx
theorem LJM.below {w wx wy : World} {fn sl v : Value} {l : List Ms} {x : Ms} {gb : Nat} (h : LJM w fn sl l x gb v wx) (hb : Below wx.heap.size wx wy) : LJM w fn sl l x gb v wy :=
  ⟨h.T.below hb, h.R.below hb, h.B.below hb, h.G, h.S.below hb, h.W.trans (hb.mono h.W.size)⟩
theorem ljM {w W0 w1 : World} {fn sl v : Value} {l0 l : List Ms} {x : Ms} (hT : Boxed2 W0 w.heap.size 62 fn sl) (hR : Boxed2 W0 (w.heap.size + 1) 62 .nilFunc (.slice none 0 0)) (hB : Below w.heap.size w W0) (hg : w.heap.size + 1 < W0.heap.size) (hs0 : SlG cM 2 w sl l0) (hb : Below W0.heap.size W0 w1)
    (hs : (v = sl ∧ l = l0) ∨ RowG cM 2 88 w1 W0.heap.size v l) :
    LJM w fn sl l x w1.heap.size v (w1.alloc (.cells #[.string (str x.s), .int .u64 x.t] 88)) := by
  have h2 : Below W0.heap.size W0 (w1.alloc (.cells #[.string (str x.s), .int .u64 x.t] 88)) := hb.alloc hb.size _
  have h3 := hB.trans (h2.mono hB.size)
  refine ⟨hT.below h2, hR.below h2, World.alloc_heap_new w1 _, Nat.lt_of_lt_of_le hg hb.size, ?_, h3⟩
  rcases hs with ⟨rfl, rfl⟩ | hr
  · exact hs0.below h3
  · exact (hr.alloc _).sl encM
end Go.Proofs.Ytpgaepilnbjhbaa
