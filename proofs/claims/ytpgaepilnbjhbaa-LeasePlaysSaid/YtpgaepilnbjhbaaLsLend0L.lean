/- A box of a loan; what is kept while a table is made. -/
import Derived.Test.YtpgaepilnbjhbaaLsFreeL
import Derived.Test.YtpgaepilnbjhbaaLsBinL
set_option maxRecDepth 100000
set_option maxHeartbeats 4000000
set_option linter.unusedVariables false
namespace Go.Proofs.Ytpgaepilnbjhbaa
open Go.RowKit
open Ls (Txt Ln Ms sameL sameM low Mono)
/-- A box of a loan. -/
def BoxL (W : World) (g : Nat) (x : Ln) : Prop := W.heap[g]? = some (.cells #[.string (str x.q), .int .u64 x.id, .int .u64 x.t] 80)
/-- A box for a loan. -/
def Box3 (W : World) (g : Nat) : Prop := ∃ y0 y1 y2, W.heap[g]? = some (.cells #[y0, y1, y2] 80)
theorem Box3.below {w w' : World} {g : Nat} (h : Box3 w g) (hb : Below w.heap.size w w') : Box3 w' g := by
  obtain ⟨y0, y1, y2, h⟩ := h
  exact ⟨y0, y1, y2, (hb.block g (Array.getElem?_eq_some_iff.1 h).1).trans h⟩
theorem Box3.new (W : World) (y0 y1 y2 : Value) : Box3 (W.alloc (.cells #[y0, y1, y2] 80)) W.heap.size := ⟨y0, y1, y2, World.alloc_heap_new W _⟩
theorem Box3.isSome {w : World} {g : Nat} (h : Box3 w g) : (w.cell? ⟨g, 0, none⟩).isSome = true ∧ (w.cell? ⟨g, 1, none⟩).isSome = true ∧ (w.cell? ⟨g, 2, none⟩).isSome = true := by
  obtain ⟨y0, y1, y2, h⟩ := h
  simp [World.cell?, h]
theorem Box3.frozen {w : World} {g : Nat} (h : Box3 w g) (k : Nat) : w.frozen? ⟨g, k, none⟩ = false := by
  obtain ⟨y0, y1, y2, h⟩ := h
  simp [World.frozen?, h]
theorem Box3.set {w : World} {g : Nat} (h : Box3 w g) (x : Ln) : BoxL (((w.setCell ⟨g, 0, none⟩ (.string (str x.q))).setCell ⟨g, 1, none⟩ (.int .u64 x.id)).setCell ⟨g, 2, none⟩ (.int .u64 x.t)) g x := by
  obtain ⟨y0, y1, y2, h⟩ := h
  unfold BoxL
  simp [World.setCell, Array.getElem?_modify, h]
theorem BoxL.lt {w : World} {g : Nat} {x : Ln} (h : BoxL w g x) : g < w.heap.size := (Array.getElem?_eq_some_iff.1 h).1
theorem BoxL.below {w w' : World} {g : Nat} {x : Ln} (h : BoxL w g x) (hb : Below w.heap.size w w') : BoxL w' g x := (hb.block g h.lt).trans h
theorem BoxL.cells {w : World} {g : Nat} {x : Ln} (h : BoxL w g x) : w.cell? ⟨g, 0, none⟩ = some (.string (str x.q)) ∧ w.cell? ⟨g, 1, none⟩ = some (.int .u64 x.id) ∧ w.cell? ⟨g, 2, none⟩ = some (.int .u64 x.t) := by
  have h' : w.heap[g]? = _ := h
  simp [World.cell?, h']
theorem set3K {w w1 : World} {B b0 b1 g : Nat} {x0 x1 x2 x3 y0 y1 y2 : Value} (H : w1.cell? ⟨b0, 0, none⟩ = some x0 ∧ w1.cell? ⟨b0, 1, none⟩ = some x1 ∧ w1.cell? ⟨b1, 0, none⟩ = some x2 ∧ w1.cell? ⟨b1, 1, none⟩ = some x3 ∧ Below B w w1) (h0 : b0 < g) (h1 : b1 < g) (hg : B ≤ g) : (((w1.setCell ⟨g, 0, none⟩ y0).setCell ⟨g, 1, none⟩ y1).setCell ⟨g, 2, none⟩ y2).cell? ⟨b0, 0, none⟩ = some x0 ∧ (((w1.setCell ⟨g, 0, none⟩ y0).setCell ⟨g, 1, none⟩ y1).setCell ⟨g, 2, none⟩ y2).cell? ⟨b0, 1, none⟩ = some x1 ∧ (((w1.setCell ⟨g, 0, none⟩ y0).setCell ⟨g, 1, none⟩ y1).setCell ⟨g, 2, none⟩ y2).cell? ⟨b1, 0, none⟩ = some x2 ∧ (((w1.setCell ⟨g, 0, none⟩ y0).setCell ⟨g, 1, none⟩ y1).setCell ⟨g, 2, none⟩ y2).cell? ⟨b1, 1, none⟩ = some x3 ∧ Below B w (((w1.setCell ⟨g, 0, none⟩ y0).setCell ⟨g, 1, none⟩ y1).setCell ⟨g, 2, none⟩ y2) := by
  obtain ⟨k0, k1, k2, k3, hq⟩ := H
  have far : ∀ (W : World) (i j b : Nat) (y : Value), b < g → (W.setCell ⟨g, i, none⟩ y).cell? ⟨b, j, none⟩ = W.cell? ⟨b, j, none⟩ := fun W i j b y hb => World.cell?_setCell_far W ⟨g, i, none⟩ ⟨b, j, none⟩ y (by show g ≠ b; omega)
  refine ⟨?_, ?_, ?_, ?_, ((hq.setCell hg _).setCell hg _).setCell hg _⟩
  · rw [far _ _ _ _ _ h0, far _ _ _ _ _ h0, far _ _ _ _ _ h0]; exact k0
  · rw [far _ _ _ _ _ h0, far _ _ _ _ _ h0, far _ _ _ _ _ h0]; exact k1
  · rw [far _ _ _ _ _ h1, far _ _ _ _ _ h1, far _ _ _ _ _ h1]; exact k2
  · rw [far _ _ _ _ _ h1, far _ _ _ _ _ h1, far _ _ _ _ _ h1]; exact k3
theorem rowOneL (W : World) (x : Ln) (g : Nat) (hg : W.heap.size = g) : SlG cL 3 (W.alloc (.cells (cL x).toArray 80)) (.slice (some ⟨g, 0, none⟩) 1 1) [x] := by
  refine ⟨_, g, 0, 1, rfl, Nat.le_refl _, by unfold maxLen; omega, (fun h => by cases h), .inr rfl, ?_⟩
  intro j y hj i u hu'
  cases j with
  | succ j => simp at hj
  | zero =>
    simp at hj
    subst hj hg
    rw [Nat.zero_mul, Nat.zero_add, World.cell?_alloc_new]
    simpa using hu'
theorem firstG {w w1 : World} {b0 g b2 B : Nat} {t t' : TypeId} {x0 x1 z0 z1 y0 y1 y2 : Value} (hT : Boxed2 w1 b0 t x0 x1) (hR : Boxed2 w1 g t' z0 z1) (hm : w1.cell? ⟨b2, 0, none⟩ = some y0 ∧ w1.cell? ⟨b2, 1, none⟩ = some y1 ∧ w1.cell? ⟨b2, 2, none⟩ = some y2) (hb : Below B w w1) : w1.cell? ⟨b0, 0, none⟩ = some x0 ∧ w1.cell? ⟨b0, 1, none⟩ = some x1 ∧ w1.cell? ⟨g, 0, none⟩ = some (cv w1 g 0) ∧ w1.cell? ⟨g, 1, none⟩ = some (cv w1 g 1) ∧ w1.frozen? ⟨g, 0, none⟩ = false ∧ w1.frozen? ⟨g, 1, none⟩ = false ∧ w1.cell? ⟨b2, 0, none⟩ = some y0 ∧ w1.cell? ⟨b2, 1, none⟩ = some y1 ∧ w1.cell? ⟨b2, 2, none⟩ = some y2 ∧ Below B w w1 :=
  ⟨hT.c0, hT.c1, cv_of (by rw [hR.c0]; rfl), cv_of (by rw [hR.c1]; rfl), hR.f0, hR.f1, hm.1, hm.2.1, hm.2.2, hb⟩
theorem stepG {w w1 w2 : World} {b0 g b2 B : Nat} {x0 x1 y0 y1 y2 : Value} (hB : B ≤ w.heap.size) (H : w1.cell? ⟨b0, 0, none⟩ = some x0 ∧ w1.cell? ⟨b0, 1, none⟩ = some x1 ∧ w1.cell? ⟨g, 0, none⟩ = some (cv w1 g 0) ∧ w1.cell? ⟨g, 1, none⟩ = some (cv w1 g 1) ∧ w1.frozen? ⟨g, 0, none⟩ = false ∧ w1.frozen? ⟨g, 1, none⟩ = false ∧ w1.cell? ⟨b2, 0, none⟩ = some y0 ∧ w1.cell? ⟨b2, 1, none⟩ = some y1 ∧ w1.cell? ⟨b2, 2, none⟩ = some y2 ∧ Below B w w1) (hb : Below w1.heap.size w1 w2) : w2.cell? ⟨b0, 0, none⟩ = some x0 ∧ w2.cell? ⟨b0, 1, none⟩ = some x1 ∧ w2.cell? ⟨g, 0, none⟩ = some (cv w2 g 0) ∧ w2.cell? ⟨g, 1, none⟩ = some (cv w2 g 1) ∧ w2.frozen? ⟨g, 0, none⟩ = false ∧ w2.frozen? ⟨g, 1, none⟩ = false ∧ w2.cell? ⟨b2, 0, none⟩ = some y0 ∧ w2.cell? ⟨b2, 1, none⟩ = some y1 ∧ w2.cell? ⟨b2, 2, none⟩ = some y2 ∧ Below B w w2 := by
  obtain ⟨h0, h1, h2, h3, h5, h6, m0, m1, m2, hq⟩ := H
  obtain ⟨k0, k1, k2, k3, k4, k5, k6⟩ := stepF hB ⟨h0, h1, h2, h3, h5, h6, hq⟩ hb
  exact ⟨k0, k1, k2, k3, k4, k5, (hb.cell (p := ⟨b2, 0, none⟩) (World.block_lt_of_cell? _ _ m0)).trans m0, (hb.cell (p := ⟨b2, 1, none⟩) (World.block_lt_of_cell? _ _ m1)).trans m1, (hb.cell (p := ⟨b2, 2, none⟩) (World.block_lt_of_cell? _ _ m2)).trans m2, k6⟩
theorem stepGs {w w1 : World} {b0 g b2 B j : Nat} {x0 x1 y0 y1 y2 y : Value} (H : w1.cell? ⟨b0, 0, none⟩ = some x0 ∧ w1.cell? ⟨b0, 1, none⟩ = some x1 ∧ w1.cell? ⟨g, 0, none⟩ = some (cv w1 g 0) ∧ w1.cell? ⟨g, 1, none⟩ = some (cv w1 g 1) ∧ w1.frozen? ⟨g, 0, none⟩ = false ∧ w1.frozen? ⟨g, 1, none⟩ = false ∧ w1.cell? ⟨b2, 0, none⟩ = some y0 ∧ w1.cell? ⟨b2, 1, none⟩ = some y1 ∧ w1.cell? ⟨b2, 2, none⟩ = some y2 ∧ Below B w w1) (h0 : g ≠ b0) (h2 : g ≠ b2) (hg : B ≤ g) : (w1.setCell ⟨g, j, none⟩ y).cell? ⟨b0, 0, none⟩ = some x0 ∧ (w1.setCell ⟨g, j, none⟩ y).cell? ⟨b0, 1, none⟩ = some x1 ∧ (w1.setCell ⟨g, j, none⟩ y).cell? ⟨g, 0, none⟩ = some (cv (w1.setCell ⟨g, j, none⟩ y) g 0) ∧ (w1.setCell ⟨g, j, none⟩ y).cell? ⟨g, 1, none⟩ = some (cv (w1.setCell ⟨g, j, none⟩ y) g 1) ∧ (w1.setCell ⟨g, j, none⟩ y).frozen? ⟨g, 0, none⟩ = false ∧ (w1.setCell ⟨g, j, none⟩ y).frozen? ⟨g, 1, none⟩ = false ∧ (w1.setCell ⟨g, j, none⟩ y).cell? ⟨b2, 0, none⟩ = some y0 ∧ (w1.setCell ⟨g, j, none⟩ y).cell? ⟨b2, 1, none⟩ = some y1 ∧ (w1.setCell ⟨g, j, none⟩ y).cell? ⟨b2, 2, none⟩ = some y2 ∧ Below B w (w1.setCell ⟨g, j, none⟩ y) := by
  obtain ⟨k0, k1, k2, k3, k5, k6, m0, m1, m2, hq⟩ := H
  obtain ⟨c0, c1, c2, c3, c4, c5, c6⟩ := stepFs (j := j) (y := y) ⟨k0, k1, k2, k3, k5, k6, hq⟩ h0 hg
  exact ⟨c0, c1, c2, c3, c4, c5, (World.cell?_setCell_far w1 ⟨g, j, none⟩ ⟨b2, 0, none⟩ y h2).trans m0, (World.cell?_setCell_far w1 ⟨g, j, none⟩ ⟨b2, 1, none⟩ y h2).trans m1, (World.cell?_setCell_far w1 ⟨g, j, none⟩ ⟨b2, 2, none⟩ y h2).trans m2, c6⟩
theorem zG {w w1 w2 : World} {b0 g b2 B : Nat} {x0 x1 y0 y1 y2 : Value} (H : w1.cell? ⟨b0, 0, none⟩ = some x0 ∧ w1.cell? ⟨b0, 1, none⟩ = some x1 ∧ w1.cell? ⟨g, 0, none⟩ = some (cv w1 g 0) ∧ w1.cell? ⟨g, 1, none⟩ = some (cv w1 g 1) ∧ w1.frozen? ⟨g, 0, none⟩ = false ∧ w1.frozen? ⟨g, 1, none⟩ = false ∧ w1.cell? ⟨b2, 0, none⟩ = some y0 ∧ w1.cell? ⟨b2, 1, none⟩ = some y1 ∧ w1.cell? ⟨b2, 2, none⟩ = some y2 ∧ Below B w w1) (hb : Below w1.heap.size w1 w2) : w2.cell? ⟨g, 0, none⟩ = some (cv w2 g 0) ∧ w2.cell? ⟨g, 1, none⟩ = some (cv w2 g 1) := by
  obtain ⟨h0, h1, h2, h3, h5, h6, m0, m1, m2, hq⟩ := H
  exact zF ⟨h0, h1, h2, h3, h5, h6, hq⟩ hb
theorem lastG {w w1 : World} {b0 g b2 B : Nat} {x0 x1 y0 y1 y2 : Value} (H : w1.cell? ⟨b0, 0, none⟩ = some x0 ∧ w1.cell? ⟨b0, 1, none⟩ = some x1 ∧ w1.cell? ⟨g, 0, none⟩ = some (cv w1 g 0) ∧ w1.cell? ⟨g, 1, none⟩ = some (cv w1 g 1) ∧ w1.frozen? ⟨g, 0, none⟩ = false ∧ w1.frozen? ⟨g, 1, none⟩ = false ∧ w1.cell? ⟨b2, 0, none⟩ = some y0 ∧ w1.cell? ⟨b2, 1, none⟩ = some y1 ∧ w1.cell? ⟨b2, 2, none⟩ = some y2 ∧ Below B w w1) : Below B w w1 := by
  obtain ⟨h0, h1, h2, h3, h5, h6, m0, m1, m2, hq⟩ := H
  exact hq
/-- What is kept within Lend: the table's box, the answer's, a box of the loan, the row of the others. -/
structure LJL (w : World) (fn sl : Value) (l : List Ln) (x : Ln) (gb : Nat) (v : Value) (wx : World) : Prop where
  T : Boxed2 wx w.heap.size 27 fn sl
  R : Boxed2 wx (w.heap.size + 1 + 1) 27 .nilFunc (.slice none 0 0)
  B : BoxL wx gb x
  G : w.heap.size + 1 + 1 < gb
  S : SlG cL 3 wx v l
  W : Below w.heap.size w wx
theorem LJL.below {w wx wy : World} {fn sl v : Value} {l : List Ln} {x : Ln} {gb : Nat} (h : LJL w fn sl l x gb v wx) (hb : Below wx.heap.size wx wy) : LJL w fn sl l x gb v wy :=
  ⟨h.T.below hb, h.R.below hb, h.B.below hb, h.G, h.S.below hb, h.W.trans (hb.mono h.W.size)⟩
theorem ljA {w W0 w1 : World} {fn sl v : Value} {l0 l : List Ln} {x : Ln} {z : Obj} (hT : Boxed2 W0 w.heap.size 27 fn sl) (hR : Boxed2 W0 (w.heap.size + 1 + 1) 27 .nilFunc (.slice none 0 0)) (hB : Below w.heap.size w W0) (hg : w.heap.size + 1 + 1 < W0.heap.size) (hs0 : SlG cL 3 w sl l0) (hb : Below (W0.alloc z).drew.heap.size (W0.alloc z).drew w1) (hX : Box3 w1 W0.heap.size)
    (hs : (v = sl ∧ l = l0) ∨ RowG cL 3 80 w1 (W0.alloc z).drew.heap.size v l) :
    LJL w fn sl l x W0.heap.size v (((w1.setCell ⟨W0.heap.size, 0, none⟩ (.string (str x.q))).setCell ⟨W0.heap.size, 1, none⟩ (.int .u64 x.id)).setCell ⟨W0.heap.size, 2, none⟩ (.int .u64 x.t)) := by
  have h0 : Below W0.heap.size W0 (W0.alloc z).drew := (below_alloc W0 z).drew
  have h1 : Below W0.heap.size W0 w1 := below_step h0 hb
  have h2 : Below W0.heap.size W0 (((w1.setCell ⟨W0.heap.size, 0, none⟩ (.string (str x.q))).setCell ⟨W0.heap.size, 1, none⟩ (.int .u64 x.id)).setCell ⟨W0.heap.size, 2, none⟩ (.int .u64 x.t)) := ((h1.setCell (Nat.le_refl _) _).setCell (Nat.le_refl _) _).setCell (Nat.le_refl _) _
  have h3 := hB.trans (h2.mono hB.size)
  refine ⟨hT.below h2, hR.below h2, hX.set x, hg, ?_, h3⟩
  rcases hs with ⟨rfl, rfl⟩ | hr
  · exact hs0.below h3
  · have hlt : W0.heap.size < (W0.alloc z).drew.heap.size := by show _ < (W0.alloc z).heap.size; simp
    exact (((hr.set (a := ⟨W0.heap.size, 0, none⟩) hlt _).set (a := ⟨W0.heap.size, 1, none⟩) hlt _).set (a := ⟨W0.heap.size, 2, none⟩) hlt _).sl encL
theorem ljA' {w W0 w1 : World} {fn sl v : Value} {l0 l : List Ln} {x : Ln} {z : Obj} (gb : Nat) (hgb : W0.heap.size = gb) (hT : Boxed2 W0 w.heap.size 27 fn sl) (hR : Boxed2 W0 (w.heap.size + 1 + 1) 27 .nilFunc (.slice none 0 0)) (hB : Below w.heap.size w W0) (hg : w.heap.size + 1 + 1 < W0.heap.size) (hs0 : SlG cL 3 w sl l0) (hb : Below (W0.alloc z).drew.heap.size (W0.alloc z).drew w1) (hX : Box3 w1 gb)
    (hs : (v = sl ∧ l = l0) ∨ RowG cL 3 80 w1 (W0.alloc z).drew.heap.size v l) :
    LJL w fn sl l x gb v (((w1.setCell ⟨gb, 0, none⟩ (.string (str x.q))).setCell ⟨gb, 1, none⟩ (.int .u64 x.id)).setCell ⟨gb, 2, none⟩ (.int .u64 x.t)) := by
  subst hgb; exact ljA hT hR hB hg hs0 hb hX hs
theorem box3A {W0 w1 : World} (gb : Nat) (hgb : W0.heap.size = gb) {y0 y1 y2 : Value} (hb : Below (W0.alloc (.cells #[y0, y1, y2] 80)).drew.heap.size (W0.alloc (.cells #[y0, y1, y2] 80)).drew w1) : Box3 w1 gb := by
  subst hgb
  exact Box3.below (w := (W0.alloc (.cells #[y0, y1, y2] 80)).drew) (Box3.new W0 y0 y1 y2) hb
theorem ljB {w W0 w1 : World} {fn sl v : Value} {l0 l : List Ln} {x : Ln} (hT : Boxed2 W0 w.heap.size 27 fn sl) (hR : Boxed2 W0 (w.heap.size + 1 + 1) 27 .nilFunc (.slice none 0 0)) (hB : Below w.heap.size w W0) (hg : w.heap.size + 1 + 1 < W0.heap.size) (hs0 : SlG cL 3 w sl l0) (hb : Below W0.drew.heap.size W0.drew w1)
    (hs : (v = sl ∧ l = l0) ∨ RowG cL 3 80 w1 W0.drew.heap.size v l) :
    LJL w fn sl l x w1.heap.size v (w1.alloc (.cells #[.string (str x.q), .int .u64 x.id, .int .u64 x.t] 80)) := by
  have h1 : Below W0.heap.size W0 w1 := (Below.refl W0.heap.size W0).drew.trans hb
  have h2 : Below W0.heap.size W0 (w1.alloc (.cells #[.string (str x.q), .int .u64 x.id, .int .u64 x.t] 80)) := h1.alloc h1.size _
  have h3 := hB.trans (h2.mono hB.size)
  refine ⟨hT.below h2, hR.below h2, World.alloc_heap_new w1 _, Nat.lt_of_lt_of_le hg h1.size, ?_, h3⟩
  rcases hs with ⟨rfl, rfl⟩ | hr
  · exact hs0.below h3
  · exact (hr.alloc _).sl encL
end Go.Proofs.Ytpgaepilnbjhbaa
