/- The contracts of a node's Join and Same. -/
import Derived.Test.YtilccpklbaglpaaSpl
import Derived.Test.YtilccpklbaglpaaCctC
import Derived.Test.YtilccpklbaglpaaCctK
import Derived.Test.YtilccpklbaglpaaEqlC
import Derived.Test.YtilccpklbaglpaaEqlK
set_option maxRecDepth 100000
set_option maxHeartbeats 4000000
set_option linter.unusedVariables false
namespace Go.Proofs.Ytilccpklbaglpaa.Sl
def joinN (a : Nd) (k : List UInt8) (b : Nd) : Nd := if a.leaf then ⟨true, a.cs ++ b.cs, []⟩ else ⟨false, [], a.ks ++ setK k b.ks⟩
end Go.Proofs.Ytilccpklbaglpaa.Sl
namespace Go.Proofs.Ytilccpklbaglpaa
open Go.RowKit
open Sl (Cl Kd Nd Rn)
/-- A box that may be written. -/
structure E3 (w : World) (g : Nat) : Prop where
  z0 : (w.cell? ⟨g, 0, none⟩).isSome = true
  z1 : (w.cell? ⟨g, 1, none⟩).isSome = true
  z2 : (w.cell? ⟨g, 2, none⟩).isSome = true
  f0 : w.frozen? ⟨g, 0, none⟩ = false
  f1 : w.frozen? ⟨g, 1, none⟩ = false
  f2 : w.frozen? ⟨g, 2, none⟩ = false
theorem isSome_set {w : World} {a b : Addr} {u : Value} (h : (w.cell? a).isSome = true) : ((w.setCell b u).cell? a).isSome = true := by
  by_cases hab : b = a
  · subst hab; rw [World.cell?_setCell_same' w b u h]; rfl
  · rw [World.cell?_setCell_other w b a u hab]; exact h
theorem Z3.e3 {w : World} {g : Nat} (h : Z3 w g) : E3 w g := ⟨by rw [h.z0]; rfl, by rw [h.z1]; rfl, by rw [h.z2]; rfl, h.f0, h.f1, h.f2⟩
theorem startJ (w : World) (x y : Array Value) (u v : Value) (T : TypeId) :
    Below w.heap.size w ((((w.alloc (.cells x 46)).alloc (.cells y 46)).alloc (.cells #[.bool false, .slice none 0 0, .slice none 0 0] 46)).alloc (.cells #[u, v] T)) ∧
    ((((w.alloc (.cells x 46)).alloc (.cells y 46)).alloc (.cells #[.bool false, .slice none 0 0, .slice none 0 0] 46)).alloc (.cells #[u, v] T)).cell? ⟨w.heap.size + 1 + 1 + 1, 0, none⟩ = some u ∧
    ((((w.alloc (.cells x 46)).alloc (.cells y 46)).alloc (.cells #[.bool false, .slice none 0 0, .slice none 0 0] 46)).alloc (.cells #[u, v] T)).cell? ⟨w.heap.size + 1 + 1 + 1, 1, none⟩ = some v ∧
    Z3 ((((w.alloc (.cells x 46)).alloc (.cells y 46)).alloc (.cells #[.bool false, .slice none 0 0, .slice none 0 0] 46)).alloc (.cells #[u, v] T)) (w.heap.size + 1 + 1) ∧
    w.heap.size + 1 + 1 < ((((w.alloc (.cells x 46)).alloc (.cells y 46)).alloc (.cells #[.bool false, .slice none 0 0, .slice none 0 0] 46)).alloc (.cells #[u, v] T)).heap.size := by
  have h2 : ((w.alloc (.cells x 46)).alloc (.cells y 46)).heap.size = w.heap.size + 1 + 1 := by simp
  have h3 : (((w.alloc (.cells x 46)).alloc (.cells y 46)).alloc (.cells #[.bool false, .slice none 0 0, .slice none 0 0] 46)).heap.size = w.heap.size + 1 + 1 + 1 := by simp
  refine ⟨((((Below.refl _ _).alloc (Nat.le_refl _) _).alloc (by simp) _).alloc (by rw [h2]; omega) _).alloc (by rw [h3]; omega) _, ?_, ?_, ?_, by simp⟩
  · rw [← h3]; exact World.cell?_alloc_new _ _ _ 0
  · rw [← h3]; exact World.cell?_alloc_new _ _ _ 1
  · have := Z3.new ((w.alloc (.cells x 46)).alloc (.cells y 46))
    rw [h2] at this
    exact this.below ((Below.refl _ _).alloc (Nat.le_refl _) _)
@[irreducible] noncomputable def cv (w : World) (g i : Nat) : Value := (w.cell? ⟨g, i, none⟩).getD .nilFunc
theorem cv_of {w : World} {g i : Nat} (h : (w.cell? ⟨g, i, none⟩).isSome = true) : w.cell? ⟨g, i, none⟩ = some (cv w g i) := by
  obtain ⟨v, hv⟩ := Option.isSome_iff_exists.1 h
  unfold cv
  rw [hv]; rfl
theorem stepJ {w w1 w2 : World} {p0 p1 : Addr} {x0 x1 : Value} {g B : Nat} (hB : B ≤ w.heap.size) (H : w1.cell? p0 = some x0 ∧ w1.cell? p1 = some x1 ∧ w1.cell? ⟨g, 0, none⟩ = some (cv w1 g 0) ∧ w1.cell? ⟨g, 1, none⟩ = some (cv w1 g 1) ∧ w1.cell? ⟨g, 2, none⟩ = some (cv w1 g 2) ∧ w1.frozen? ⟨g, 0, none⟩ = false ∧ w1.frozen? ⟨g, 1, none⟩ = false ∧ w1.frozen? ⟨g, 2, none⟩ = false ∧ Below B w w1) (hb : Below w1.heap.size w1 w2) :
    w2.cell? p0 = some x0 ∧ w2.cell? p1 = some x1 ∧ w2.cell? ⟨g, 0, none⟩ = some (cv w2 g 0) ∧ w2.cell? ⟨g, 1, none⟩ = some (cv w2 g 1) ∧ w2.cell? ⟨g, 2, none⟩ = some (cv w2 g 2) ∧ w2.frozen? ⟨g, 0, none⟩ = false ∧ w2.frozen? ⟨g, 1, none⟩ = false ∧ w2.frozen? ⟨g, 2, none⟩ = false ∧ Below B w w2 := by
  obtain ⟨h0, h1, h2, h3, h4, h5, h6, h7, hq⟩ := H
  have hlt : g < w1.heap.size := World.block_lt_of_cell? _ _ h2
  refine ⟨(hb.cell (p := p0) (World.block_lt_of_cell? _ _ h0)).trans h0, (hb.cell (p := p1) (World.block_lt_of_cell? _ _ h1)).trans h1, ?_, ?_, ?_, (hb.frozen (p := ⟨g, 0, none⟩) hlt).trans h5, (hb.frozen (p := ⟨g, 1, none⟩) hlt).trans h6, (hb.frozen (p := ⟨g, 2, none⟩) hlt).trans h7, hq.trans (hb.mono (Nat.le_trans hB hq.size))⟩
  · exact cv_of (by rw [hb.cell (p := ⟨g, 0, none⟩) hlt, h2]; rfl)
  · exact cv_of (by rw [hb.cell (p := ⟨g, 1, none⟩) hlt, h3]; rfl)
  · exact cv_of (by rw [hb.cell (p := ⟨g, 2, none⟩) hlt, h4]; rfl)
theorem ltJ {w w1 : World} {p0 p1 : Addr} {x0 x1 : Value} {g B : Nat} (H : w1.cell? p0 = some x0 ∧ w1.cell? p1 = some x1 ∧ w1.cell? ⟨g, 0, none⟩ = some (cv w1 g 0) ∧ w1.cell? ⟨g, 1, none⟩ = some (cv w1 g 1) ∧ w1.cell? ⟨g, 2, none⟩ = some (cv w1 g 2) ∧ w1.frozen? ⟨g, 0, none⟩ = false ∧ w1.frozen? ⟨g, 1, none⟩ = false ∧ w1.frozen? ⟨g, 2, none⟩ = false ∧ Below B w w1) : g < w1.heap.size := by
  exact World.block_lt_of_cell? _ _ H.2.2.1
theorem stepJb {w w1 w2 : World} {b0 b1 i0 i1 : Nat} {x0 x1 : Value} {g B B2 : Nat} (H : w1.cell? ⟨b0, i0, none⟩ = some x0 ∧ w1.cell? ⟨b1, i1, none⟩ = some x1 ∧ w1.cell? ⟨g, 0, none⟩ = some (cv w1 g 0) ∧ w1.cell? ⟨g, 1, none⟩ = some (cv w1 g 1) ∧ w1.cell? ⟨g, 2, none⟩ = some (cv w1 g 2) ∧ w1.frozen? ⟨g, 0, none⟩ = false ∧ w1.frozen? ⟨g, 1, none⟩ = false ∧ w1.frozen? ⟨g, 2, none⟩ = false ∧ Below B w w1) (hb : Below B2 w1 w2) (h0 : b0 < B2) (h1 : b1 < B2) (hg : g < B2) (hB : B ≤ B2) :
    w2.cell? ⟨b0, i0, none⟩ = some x0 ∧ w2.cell? ⟨b1, i1, none⟩ = some x1 ∧ w2.cell? ⟨g, 0, none⟩ = some (cv w2 g 0) ∧ w2.cell? ⟨g, 1, none⟩ = some (cv w2 g 1) ∧ w2.cell? ⟨g, 2, none⟩ = some (cv w2 g 2) ∧ w2.frozen? ⟨g, 0, none⟩ = false ∧ w2.frozen? ⟨g, 1, none⟩ = false ∧ w2.frozen? ⟨g, 2, none⟩ = false ∧ Below B w w2 := by
  obtain ⟨k0, k1, h2, h3, h4, h5, h6, h7, hq⟩ := H
  refine ⟨(hb.cell (p := ⟨b0, i0, none⟩) h0).trans k0, (hb.cell (p := ⟨b1, i1, none⟩) h1).trans k1, ?_, ?_, ?_, (hb.frozen (p := ⟨g, 0, none⟩) hg).trans h5, (hb.frozen (p := ⟨g, 1, none⟩) hg).trans h6, (hb.frozen (p := ⟨g, 2, none⟩) hg).trans h7, hq.trans (hb.mono hB)⟩
  · exact cv_of (by rw [hb.cell (p := ⟨g, 0, none⟩) hg, h2]; rfl)
  · exact cv_of (by rw [hb.cell (p := ⟨g, 1, none⟩) hg, h3]; rfl)
  · exact cv_of (by rw [hb.cell (p := ⟨g, 2, none⟩) hg, h4]; rfl)
theorem stepJs {w w1 : World} {b0 b1 i0 i1 : Nat} {x0 x1 : Value} {g B j : Nat} {y : Value} (H : w1.cell? ⟨b0, i0, none⟩ = some x0 ∧ w1.cell? ⟨b1, i1, none⟩ = some x1 ∧ w1.cell? ⟨g, 0, none⟩ = some (cv w1 g 0) ∧ w1.cell? ⟨g, 1, none⟩ = some (cv w1 g 1) ∧ w1.cell? ⟨g, 2, none⟩ = some (cv w1 g 2) ∧ w1.frozen? ⟨g, 0, none⟩ = false ∧ w1.frozen? ⟨g, 1, none⟩ = false ∧ w1.frozen? ⟨g, 2, none⟩ = false ∧ Below B w w1) (h0 : g ≠ b0) (h1 : g ≠ b1) (hg : B ≤ g) :
    (w1.setCell ⟨g, j, none⟩ y).cell? ⟨b0, i0, none⟩ = some x0 ∧ (w1.setCell ⟨g, j, none⟩ y).cell? ⟨b1, i1, none⟩ = some x1 ∧ (w1.setCell ⟨g, j, none⟩ y).cell? ⟨g, 0, none⟩ = some (cv (w1.setCell ⟨g, j, none⟩ y) g 0) ∧ (w1.setCell ⟨g, j, none⟩ y).cell? ⟨g, 1, none⟩ = some (cv (w1.setCell ⟨g, j, none⟩ y) g 1) ∧ (w1.setCell ⟨g, j, none⟩ y).cell? ⟨g, 2, none⟩ = some (cv (w1.setCell ⟨g, j, none⟩ y) g 2) ∧ (w1.setCell ⟨g, j, none⟩ y).frozen? ⟨g, 0, none⟩ = false ∧ (w1.setCell ⟨g, j, none⟩ y).frozen? ⟨g, 1, none⟩ = false ∧ (w1.setCell ⟨g, j, none⟩ y).frozen? ⟨g, 2, none⟩ = false ∧ Below B w (w1.setCell ⟨g, j, none⟩ y) := by
  obtain ⟨k0, k1, h2, h3, h4, h5, h6, h7, hq⟩ := H
  exact ⟨(World.cell?_setCell_far w1 ⟨g, j, none⟩ ⟨b0, i0, none⟩ y h0).trans k0, (World.cell?_setCell_far w1 ⟨g, j, none⟩ ⟨b1, i1, none⟩ y h1).trans k1, cv_of (isSome_set (by rw [h2]; rfl)), cv_of (isSome_set (by rw [h3]; rfl)), cv_of (isSome_set (by rw [h4]; rfl)), (World.frozen?_setCell _ _ _ _).trans h5, (World.frozen?_setCell _ _ _ _).trans h6, (World.frozen?_setCell _ _ _ _).trans h7, hq.setCell hg _⟩
theorem z3J {w w1 w2 : World} {p0 p1 : Addr} {x0 x1 : Value} {g B : Nat} (H : w1.cell? p0 = some x0 ∧ w1.cell? p1 = some x1 ∧ w1.cell? ⟨g, 0, none⟩ = some (cv w1 g 0) ∧ w1.cell? ⟨g, 1, none⟩ = some (cv w1 g 1) ∧ w1.cell? ⟨g, 2, none⟩ = some (cv w1 g 2) ∧ w1.frozen? ⟨g, 0, none⟩ = false ∧ w1.frozen? ⟨g, 1, none⟩ = false ∧ w1.frozen? ⟨g, 2, none⟩ = false ∧ Below B w w1) (hb : Below w1.heap.size w1 w2) :
    w2.cell? ⟨g, 0, none⟩ = some (cv w2 g 0) ∧ w2.cell? ⟨g, 1, none⟩ = some (cv w2 g 1) ∧ w2.cell? ⟨g, 2, none⟩ = some (cv w2 g 2) := by
  obtain ⟨_, _, h2, h3, h4, _⟩ := H
  have hlt : g < w1.heap.size := World.block_lt_of_cell? _ _ h2
  exact ⟨cv_of (by rw [hb.cell (p := ⟨g, 0, none⟩) hlt, h2]; rfl), cv_of (by rw [hb.cell (p := ⟨g, 1, none⟩) hlt, h3]; rfl), cv_of (by rw [hb.cell (p := ⟨g, 2, none⟩) hlt, h4]; rfl)⟩
theorem lastJ {w w1 : World} {p0 p1 : Addr} {x0 x1 : Value} {g B : Nat} (H : w1.cell? p0 = some x0 ∧ w1.cell? p1 = some x1 ∧ w1.cell? ⟨g, 0, none⟩ = some (cv w1 g 0) ∧ w1.cell? ⟨g, 1, none⟩ = some (cv w1 g 1) ∧ w1.cell? ⟨g, 2, none⟩ = some (cv w1 g 2) ∧ w1.frozen? ⟨g, 0, none⟩ = false ∧ w1.frozen? ⟨g, 1, none⟩ = false ∧ w1.frozen? ⟨g, 2, none⟩ = false ∧ Below B w w1) : Below B w w1 := H.2.2.2.2.2.2.2.2
theorem startJ2 (w : World) (x0 x1 x2 y0 y1 y2 : Value) :
    ((((w.alloc (.cells #[x0, x1, x2] 46)).alloc (.cells #[y0, y1, y2] 46)).alloc (.cells #[.bool false, .slice none 0 0, .slice none 0 0] 46)).drew.cell? ⟨w.heap.size, 2, none⟩ = some x2) ∧
    ((((w.alloc (.cells #[x0, x1, x2] 46)).alloc (.cells #[y0, y1, y2] 46)).alloc (.cells #[.bool false, .slice none 0 0, .slice none 0 0] 46)).drew.cell? ⟨w.heap.size + 1, 2, none⟩ = some y2) ∧
    Z3 (((w.alloc (.cells #[x0, x1, x2] 46)).alloc (.cells #[y0, y1, y2] 46)).alloc (.cells #[.bool false, .slice none 0 0, .slice none 0 0] 46)).drew (w.heap.size + 1 + 1) ∧
    Below w.heap.size w (((w.alloc (.cells #[x0, x1, x2] 46)).alloc (.cells #[y0, y1, y2] 46)).alloc (.cells #[.bool false, .slice none 0 0, .slice none 0 0] 46)).drew := by
  have h1 : (w.alloc (.cells #[x0, x1, x2] 46)).heap.size = w.heap.size + 1 := by simp
  have h2 : ((w.alloc (.cells #[x0, x1, x2] 46)).alloc (.cells #[y0, y1, y2] 46)).heap.size = w.heap.size + 1 + 1 := by simp
  have hT := ((Below.refl _ (w.alloc (.cells #[x0, x1, x2] 46))).alloc (Nat.le_refl _) (.cells #[y0, y1, y2] 46)).alloc (by simp) (.cells #[.bool false, .slice none 0 0, .slice none 0 0] 46)
  have hU := (Below.refl _ ((w.alloc (.cells #[x0, x1, x2] 46)).alloc (.cells #[y0, y1, y2] 46))).alloc (Nat.le_refl _) (.cells #[.bool false, .slice none 0 0, .slice none 0 0] 46)
  refine ⟨(hT.drew.cell (p := ⟨w.heap.size, 2, none⟩) (show w.heap.size < _ by omega)).trans (World.cell?_alloc_new w _ _ 2), (hU.drew.cell (p := ⟨w.heap.size + 1, 2, none⟩) (show w.heap.size + 1 < _ by omega)).trans ?_, ?_, ((((Below.refl _ _).alloc (Nat.le_refl _) _).alloc (by simp) _).alloc (by simp; omega) _).drew⟩
  · rw [← h1]; exact World.cell?_alloc_new _ _ _ 2
  · have := Z3.new ((w.alloc (.cells #[x0, x1, x2] 46)).alloc (.cells #[y0, y1, y2] 46))
    rw [h2] at this
    exact this.below (Below.refl _ _).drew
inductive RetN (n : Nd) (w : World) (e : Ending) (w' : World) : Prop
  | mk (v : Value) (he : e = .returned v) (hv : NdV w' v n) (hb : Below w.heap.size w w')
theorem joinT_any (u v : Value) (a b : Nd) (k : List UInt8) (w : World) (hu : NdV w u a) (hv : NdV w v b) (hlf : a.leaf = true) (ha : a.cs.length ≤ 100000) (hb : b.cs.length ≤ 100000) :
    Calls Try.prog 29 #[u, .string (str k), v] w (RetN (Sl.joinN a k b) w) := by
  obtain ⟨vc, vk, rfl, hc, hcc, hk, hkk⟩ := hu
  obtain ⟨vc', vk', rfl, hc', hcc', hk', hkk'⟩ := hv
  have HC := Lib.hid (fun g W (hW : Below w.heap.size w W) h0 h1 => concatC_any g vc vc' a.cs b.cs ha hb W (hc.below hW) (hc'.below hW) h0 h1 hcc hcc')
  rw [hlf]
  generalize b.leaf = bl
  unfold ndV
  obtain ⟨a1, n1, c1, _, _, _⟩ := hcc
  obtain ⟨a2, n2, c2, _, _, _⟩ := hkk
  obtain ⟨a3, n3, c3, _, _, _⟩ := hcc'
  obtain ⟨a4, n4, c4, _, _, _⟩ := hkk'
  clear hc hk hc' hk' ha hb
  have HST := Lib.hid (startJ w #[.bool true, .slice a1 n1 c1, .slice a2 n2 c2] #[.bool bl, .slice a3 n3 c3, .slice a4 n4 c4] (.slice a1 n1 c1) (.slice a3 n3 c3) 40)
  go_enter Try.func29, Try.ntmps29
  go_wp2_with (first
    | (go_at_call 61; refine (HC.out _ _ HST.out.1 HST.out.2.1 HST.out.2.2.1).mono ?_; rintro e w5 ⟨v1, rfl, hr1, hb1⟩; obtain ⟨a5, n5, c5, ha5, hc5, hn5⟩ := hr1.cap; have HR1 := Lib.hid hr1; have HZ1 := Lib.hid (HST.out.2.2.2.1.below hb1); have HB1 := Lib.hid (HST.out.1.trans (hb1.mono HST.out.1.size)); have HS1 := Lib.hid HST.out.2.2.2.2; have HL5 := Lib.hid (fun W => leaf_any (.slice a5 n5 c5) ⟨a5, n5, c5, ha5, hc5, hn5⟩ W); unfold ndV at HL5; clear hr1 hb1)
    | (go_at_call 47; with_reducible refine (HL5.out _).mono ?_; rintro e w6 ⟨rfl, hb6⟩; have HR6 := Lib.hid (HR1.out.below hb6); have HZ6 := Lib.hid (HZ1.out.below hb6); have HB6 := Lib.hid (HB1.out.trans (hb6.mono HB1.out.size)); have z0 := HZ6.out.z0; have z1 := HZ6.out.z1; have z2 := HZ6.out.z2; have z3 := HZ6.out.f0; have z4 := HZ6.out.f1; have z5 := HZ6.out.f2))
  refine bodyPost_ret_by (v := ndV true (.slice a5 n5 c5) (.slice none 0 0)) ?_ rfl ?_
  · simp [ndV, results, Try.results29, go_sem, z0, z1, z2]
  · have hq := HS1.out
    refine ⟨ndV true (.slice a5 n5 c5) (.slice none 0 0), rfl, ?_, ?_⟩
    · have h1 : Sl.joinN a k b = ⟨true, a.cs ++ b.cs, []⟩ := by unfold Sl.joinN; rw [if_pos hlf]
      rw [h1]
      exact ⟨.slice a5 n5 c5, .slice none 0 0, rfl, (((HR6.out.set hq _).set hq _).set hq _).sl, ⟨_, _, _, ha5, hc5, hn5⟩, SlK.nil _, cap_nil⟩
    · exact ((HB6.out.setCell (by show _ ≤ _; simp; omega) _).setCell (by show _ ≤ _; simp; omega) _).setCell (by show _ ≤ _; simp; omega) _
theorem joinF_any (u v : Value) (a b : Nd) (k : List UInt8) (w : World) (hu : NdV w u a) (hv : NdV w v b) (hlf : a.leaf = false) (ha : a.ks.length ≤ 100000) (hb : b.ks.length ≤ 100000) :
    Calls Try.prog 29 #[u, .string (str k), v] w (RetN (Sl.joinN a k b) w) := by
  obtain ⟨vc, vk, rfl, hc, hcc, hk, hkk⟩ := hu
  obtain ⟨vc', vk', rfl, hc', hcc', hk', hkk'⟩ := hv
  have HCL := Lib.hid (fun W (hW : Below w.heap.size w W) => cloneK_any vk' b.ks hb W (hk'.below hW))
  have HKY := Lib.hid (fun B v W hW (hB : B ≤ W.heap.size) => keyed_any v b.ks k B W hW hB)
  have HC := Lib.hid (fun g v W (hW : Below w.heap.size w W) (hv : SlK W v (Sl.setK k b.ks)) hcv h0 h1 => concatK_any g vk v a.ks (Sl.setK k b.ks) ha (by rw [Sl.setK_len]; exact hb) W (hk.below hW) hv h0 h1 hkk hcv)
  have HBR := Lib.hid (fun v hv W => branch_any v hv W)
  rw [hlf]
  generalize b.leaf = bl
  unfold ndV at HBR ⊢
  obtain ⟨a1, n1, c1, _, _, _⟩ := hcc
  obtain ⟨a2, n2, c2, _, _, _⟩ := hkk
  obtain ⟨a3, n3, c3, _, _, _⟩ := hcc'
  obtain ⟨a4, n4, c4, _, _, _⟩ := hkk'
  clear hc hk hc' hk' ha hb
  have hF : Hid (((((w.alloc (.cells #[.bool false, .slice a1 n1 c1, .slice a2 n2 c2] 46)).alloc (.cells #[.bool bl, .slice a3 n3 c3, .slice a4 n4 c4] 46)).alloc (.cells #[.bool false, .slice none 0 0, .slice none 0 0] 46)).drew.cell? ⟨w.heap.size, 2, none⟩ = some (.slice a2 n2 c2)) ∧ ((((w.alloc (.cells #[.bool false, .slice a1 n1 c1, .slice a2 n2 c2] 46)).alloc (.cells #[.bool bl, .slice a3 n3 c3, .slice a4 n4 c4] 46)).alloc (.cells #[.bool false, .slice none 0 0, .slice none 0 0] 46)).drew.cell? ⟨w.heap.size + 1, 2, none⟩ = some (.slice a4 n4 c4)) ∧ Z3 (((w.alloc (.cells #[.bool false, .slice a1 n1 c1, .slice a2 n2 c2] 46)).alloc (.cells #[.bool bl, .slice a3 n3 c3, .slice a4 n4 c4] 46)).alloc (.cells #[.bool false, .slice none 0 0, .slice none 0 0] 46)).drew (w.heap.size + 1 + 1) ∧ Below w.heap.size w (((w.alloc (.cells #[.bool false, .slice a1 n1 c1, .slice a2 n2 c2] 46)).alloc (.cells #[.bool bl, .slice a3 n3 c3, .slice a4 n4 c4] 46)).alloc (.cells #[.bool false, .slice none 0 0, .slice none 0 0] 46)).drew) := startJ2 w _ _ _ _ _ _
  go_enter Try.func29, Try.ntmps29
  go_wp2_with fail
  go_outline
  go_region_held3 (fun w' => w'.cell? ⟨w.heap.size, 2, none⟩ = some (.slice a2 n2 c2) ∧ w'.cell? ⟨w.heap.size + 1, 2, none⟩ = some (.slice a4 n4 c4) ∧ w'.cell? ⟨w.heap.size + 1 + 1, 0, none⟩ = some (cv w' (w.heap.size + 1 + 1) 0) ∧ w'.cell? ⟨w.heap.size + 1 + 1, 1, none⟩ = some (cv w' (w.heap.size + 1 + 1) 1) ∧ w'.cell? ⟨w.heap.size + 1 + 1, 2, none⟩ = some (cv w' (w.heap.size + 1 + 1) 2) ∧ w'.frozen? ⟨w.heap.size + 1 + 1, 0, none⟩ = false ∧ w'.frozen? ⟨w.heap.size + 1 + 1, 1, none⟩ = false ∧ w'.frozen? ⟨w.heap.size + 1 + 1, 2, none⟩ = false ∧ Below w.heap.size w w')
    ((first | assumption | exact ⟨hF.out.1, hF.out.2.1, cv_of hF.out.2.2.1.e3.z0, cv_of hF.out.2.2.1.e3.z1, cv_of hF.out.2.2.1.e3.z2, hF.out.2.2.1.f0, hF.out.2.2.1.f1, hF.out.2.2.1.f2, hF.out.2.2.2⟩ | exact stepJ (Nat.le_refl _) ‹_› hb | exact stepJ (Nat.le_refl _) ‹_› ((Below.refl _ _).alloc (Nat.le_refl _) _) | exact stepJb ‹_› hb (by omega) (by omega) (by omega) (by omega) | exact stepJs (stepJs (stepJs ‹_› (by omega) (by omega) (by omega)) (by omega) (by omega) (by omega)) (by omega) (by omega) (by omega)))
    (first
    | (go_at_call 50; with_reducible refine (HBR.out _ HCP4.out _).mono ?_; rintro e w5 ⟨rfl, hb⟩; have HSJ := Lib.hid (z3J (by assumption) hb); have HR5 := Lib.hid (HR4.out.below hb))
    | (go_at_call 62; refine (HC.out _ _ _ (lastJ (by assumption)) (HR2.out.below ((Below.refl _ _).alloc (Nat.le_refl _) _)).sl HCP.out (World.cell?_alloc_new _ _ _ 0) (World.cell?_alloc_new _ _ _ 1)).mono ?_; rintro e w4 ⟨v4, rfl, hr4, hb⟩; obtain ⟨a6, n6, c6, ha6, hc6, hn6⟩ := hr4.cap; have HCP4 := Lib.hid (Cap.mk a6 n6 c6 ha6 hc6 hn6); have HQ4 : Hid (w.heap.size + 1 + 1 < _) := ltJ (by assumption); have HR4 := Lib.hid (hr4.base (Nat.succ_le_of_lt HQ4.out)); clear hr4)
    | (go_at_call 53; refine (HKY.out _ _ _ HR1.out HS1.out).mono ?_; rintro e w2 ⟨rfl, hr2, hb⟩; have HR2 := Lib.hid hr2; clear hr2)
    | (go_at_call 63; refine (HCL.out _ (lastJ (by assumption))).mono ?_; rintro e w1 ⟨v1, rfl, hr1, hb⟩; obtain ⟨a5, n5, c5, ha5, hc5, hn5⟩ := hr1.cap; have HCP := Lib.hid (Cap.mk a5 n5 c5 ha5 hc5 hn5); have HQ0 : Hid (w.heap.size + 1 + 1 < _) := ltJ (by assumption); have HR1 := Lib.hid (hr1.base (Nat.succ_le_of_lt HQ0.out)); have HS1 := Lib.hid (Nat.le_trans (Nat.succ_le_of_lt HQ0.out) hb.size); clear hr1))
  rename_i hS
  have HS := Lib.hid hS
  clear hS
  go_wp2
  obtain ⟨z0, z1, z2⟩ := HSJ.out
  have HB := Lib.hid (lastJ HS.out)
  refine bodyPost_ret_by (v := ndV false (.slice none 0 0) (.slice a6 n6 c6)) ?_ rfl ?_
  · simp [ndV, results, Try.results29, go_sem, z0, z1, z2]
  · refine ⟨ndV false (.slice none 0 0) (.slice a6 n6 c6), rfl, ?_, HB.out⟩
    have h1 : Sl.joinN a k b = ⟨false, [], a.ks ++ Sl.setK k b.ks⟩ := by unfold Sl.joinN; rw [hlf]; rfl
    rw [h1]
    have hq := Nat.lt_succ_self (w.heap.size + 1 + 1)
    exact ⟨.slice none 0 0, .slice a6 n6 c6, rfl, SlC.nil _, cap_nil, (((HR5.out.set hq _).set hq _).set hq _).sl, HCP4.out⟩
theorem join_any (u v : Value) (a b : Nd) (k : List UInt8) (w : World) (hu : NdV w u a) (hv : NdV w v b) (h1 : a.cs.length ≤ 100000) (h2 : b.cs.length ≤ 100000) (h3 : a.ks.length ≤ 100000) (h4 : b.ks.length ≤ 100000) :
    Calls Try.prog 29 #[u, .string (str k), v] w (RetN (Sl.joinN a k b) w) := by
  cases h : a.leaf with
  | true => exact joinT_any u v a b k w hu hv h h1 h2
  | false => exact joinF_any u v a b k w hu hv h h3 h4
theorem nsame_any (u v : Value) (a : Nd) (w : World) (hu : NdV w u a) (hv : NdV w v a) (h1 : a.cs.length ≤ 100000) (h2 : a.ks.length ≤ 100000) :
    Calls Try.prog 31 #[u, v] w fun e w' => e = .returned (.bool true) ∧ Below w.heap.size w w' := by
  obtain ⟨vc, vk, rfl, hc, hcc, hk, hkk⟩ := hu
  obtain ⟨vc', vk', rfl, hc', hcc', hk', hkk'⟩ := hv
  have HC := Lib.hid (fun W (hW : Below w.heap.size w W) => equalC_any vc vc' a.cs h1 W (hc.below hW) (hc'.below hW))
  have HK := Lib.hid (fun W (hW : Below w.heap.size w W) => equalK_any vk vk' a.ks h2 W (hk.below hW) (hk'.below hW))
  unfold ndV
  obtain ⟨a1, n1, c1, _, _, _⟩ := hcc
  obtain ⟨a2, n2, c2, _, _, _⟩ := hkk
  obtain ⟨a3, n3, c3, _, _, _⟩ := hcc'
  obtain ⟨a4, n4, c4, _, _, _⟩ := hkk'
  clear hc hk hc' hk' h1 h2
  have HB : Hid (∀ o1 o2, Below w.heap.size w ((w.alloc o1).alloc o2)) := fun o1 o2 => ((Below.refl _ _).alloc (Nat.le_refl _) _).alloc (by simp) _
  generalize a.leaf = lf
  cases lf with
  | true =>
    go_enter Try.func31, Try.ntmps31
    go_wp2_with (go_at_call 64; refine (HC.out _ (HB.out _ _)).mono ?_; rintro e w1 ⟨rfl, hb1⟩)
    go_ret
    exact ⟨rfl, (HB.out _ _).trans (hb1.mono (HB.out _ _).size)⟩
  | false =>
    go_enter Try.func31, Try.ntmps31
    go_wp2_with (go_at_call 65; refine (HK.out _ (HB.out _ _)).mono ?_; rintro e w1 ⟨rfl, hb1⟩)
    go_ret
    exact ⟨rfl, (HB.out _ _).trans (hb1.mono (HB.out _ _).size)⟩
theorem nsame_not (u v : Value) (a b : Nd) (w : World) (hu : NdV w u a) (hv : NdV w v b) (hne : a.leaf = !b.leaf) :
    Calls Try.prog 31 #[u, v] w fun e w' => e = .returned (.bool false) ∧ Below w.heap.size w w' := by
  obtain ⟨vc, vk, rfl, hc, hcc, hk, hkk⟩ := hu
  obtain ⟨vc', vk', rfl, hc', hcc', hk', hkk'⟩ := hv
  unfold ndV
  obtain ⟨a1, n1, c1, _, _, _⟩ := hcc
  obtain ⟨a2, n2, c2, _, _, _⟩ := hkk
  obtain ⟨a3, n3, c3, _, _, _⟩ := hcc'
  obtain ⟨a4, n4, c4, _, _, _⟩ := hkk'
  clear hc hk hc' hk'
  rw [hne]
  cases b.leaf with
  | true =>
    go_enter Try.func31, Try.ntmps31
    go_wp2
    go_ret
    exact ⟨rfl, ((Below.refl _ _).alloc (Nat.le_refl _) _).alloc (by simp) _⟩
  | false =>
    go_enter Try.func31, Try.ntmps31
    go_wp2
    go_ret
    exact ⟨rfl, ((Below.refl _ _).alloc (Nat.le_refl _) _).alloc (by simp) _⟩
end Go.Proofs.Ytilccpklbaglpaa
