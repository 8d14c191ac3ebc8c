/- Texts of one seat, merged. -/
import Derived.Test.YtdgcdekgleegbaaGreatS06
import Derived.Test.YtdgcdekgleegbaaGreatS07
import Derived.Test.YtdgcdekgleegbaaGreatS04
import Derived.Test.YtdgcdekgleegbaaGreatS05
import Derived.Deep.RegionHeld3
import Derived.Deep.DeepCutAuto
import Derived.Deep.RegionWith
set_option maxRecDepth 100000
set_option maxHeartbeats 4000000
set_option linter.unusedVariables false
/- The contracts of a node's Join and Same. -/
namespace Go.Proofs.YtdgcdekgleegbaaGreat.Sl
def joinN (a : Nd) (k : List UInt8) (b : Nd) : Nd := if a.leaf then ⟨true, a.cs ++ b.cs, []⟩ else ⟨false, [], a.ks ++ setK k b.ks⟩
end Go.Proofs.YtdgcdekgleegbaaGreat.Sl
namespace Go.Proofs.YtdgcdekgleegbaaGreat
open Go.RowKit
open Sl (Cl Kd Nd Rn)
/-- A box that may be written. -/
structure E3 (w : World) (g : Nat) : Prop where
  z0 : (w.cell? ⟨g, 0, none⟩).isSome = true
  z1 : (w.cell? ⟨g, 1, none⟩).isSome = true
  z2 : (w.cell? ⟨g, 2, none⟩).isSome = true
  f0 : w.frozen? ⟨g, 0, none⟩ = false
  f1 : w.frozen? ⟨g, 1, none⟩ = false
  f2 : w.frozen? ⟨g, 2, none⟩ = false
theorem isSome_set {w : World} {a b : Addr} {u : Value} (h : (w.cell? a).isSome = true) : ((w.setCell b u).cell? a).isSome = true := by
  by_cases hab : b = a
  · subst hab; rw [World.cell?_setCell_same' w b u h]; rfl
  · rw [World.cell?_setCell_other w b a u hab]; exact h
theorem Z3.e3 {w : World} {g : Nat} (h : Z3 w g) : E3 w g := ⟨by rw [h.z0]; rfl, by rw [h.z1]; rfl, by rw [h.z2]; rfl, h.f0, h.f1, h.f2⟩
theorem startJ (w : World) (x y : Array Value) (u v : Value) (T : TypeId) :
    Below w.heap.size w ((((w.alloc (.cells x 71)).alloc (.cells y 71)).alloc (.cells #[.bool false, .slice none 0 0, .slice none 0 0] 71)).alloc (.cells #[u, v] T)) ∧
    ((((w.alloc (.cells x 71)).alloc (.cells y 71)).alloc (.cells #[.bool false, .slice none 0 0, .slice none 0 0] 71)).alloc (.cells #[u, v] T)).cell? ⟨w.heap.size + 1 + 1 + 1, 0, none⟩ = some u ∧
    ((((w.alloc (.cells x 71)).alloc (.cells y 71)).alloc (.cells #[.bool false, .slice none 0 0, .slice none 0 0] 71)).alloc (.cells #[u, v] T)).cell? ⟨w.heap.size + 1 + 1 + 1, 1, none⟩ = some v ∧
    Z3 ((((w.alloc (.cells x 71)).alloc (.cells y 71)).alloc (.cells #[.bool false, .slice none 0 0, .slice none 0 0] 71)).alloc (.cells #[u, v] T)) (w.heap.size + 1 + 1) ∧
    w.heap.size + 1 + 1 < ((((w.alloc (.cells x 71)).alloc (.cells y 71)).alloc (.cells #[.bool false, .slice none 0 0, .slice none 0 0] 71)).alloc (.cells #[u, v] T)).heap.size := by
  have h2 : ((w.alloc (.cells x 71)).alloc (.cells y 71)).heap.size = w.heap.size + 1 + 1 := by simp
  have h3 : (((w.alloc (.cells x 71)).alloc (.cells y 71)).alloc (.cells #[.bool false, .slice none 0 0, .slice none 0 0] 71)).heap.size = w.heap.size + 1 + 1 + 1 := by simp
  refine ⟨((((Below.refl _ _).alloc (Nat.le_refl _) _).alloc (by simp) _).alloc (by rw [h2]; omega) _).alloc (by rw [h3]; omega) _, ?_, ?_, ?_, by simp⟩
  · rw [← h3]; exact World.cell?_alloc_new _ _ _ 0
  · rw [← h3]; exact World.cell?_alloc_new _ _ _ 1
  · have := Z3.new ((w.alloc (.cells x 71)).alloc (.cells y 71))
    rw [h2] at this
    exact this.below ((Below.refl _ _).alloc (Nat.le_refl _) _)
@[irreducible] noncomputable def cv (w : World) (g i : Nat) : Value := (w.cell? ⟨g, i, none⟩).getD .nilFunc
theorem cv_of {w : World} {g i : Nat} (h : (w.cell? ⟨g, i, none⟩).isSome = true) : w.cell? ⟨g, i, none⟩ = some (cv w g i) := by
  obtain ⟨v, hv⟩ := Option.isSome_iff_exists.1 h
  unfold cv
  rw [hv]; rfl
theorem stepJ {w w1 w2 : World} {p0 p1 : Addr} {x0 x1 : Value} {g B : Nat} (hB : B ≤ w.heap.size) (H : w1.cell? p0 = some x0 ∧ w1.cell? p1 = some x1 ∧ w1.cell? ⟨g, 0, none⟩ = some (cv w1 g 0) ∧ w1.cell? ⟨g, 1, none⟩ = some (cv w1 g 1) ∧ w1.cell? ⟨g, 2, none⟩ = some (cv w1 g 2) ∧ w1.frozen? ⟨g, 0, none⟩ = false ∧ w1.frozen? ⟨g, 1, none⟩ = false ∧ w1.frozen? ⟨g, 2, none⟩ = false ∧ Below B w w1) (hb : Below w1.heap.size w1 w2) :
    w2.cell? p0 = some x0 ∧ w2.cell? p1 = some x1 ∧ w2.cell? ⟨g, 0, none⟩ = some (cv w2 g 0) ∧ w2.cell? ⟨g, 1, none⟩ = some (cv w2 g 1) ∧ w2.cell? ⟨g, 2, none⟩ = some (cv w2 g 2) ∧ w2.frozen? ⟨g, 0, none⟩ = false ∧ w2.frozen? ⟨g, 1, none⟩ = false ∧ w2.frozen? ⟨g, 2, none⟩ = false ∧ Below B w w2 := by
  obtain ⟨h0, h1, h2, h3, h4, h5, h6, h7, hq⟩ := H
  have hlt : g < w1.heap.size := World.block_lt_of_cell? _ _ h2
  refine ⟨(hb.cell (p := p0) (World.block_lt_of_cell? _ _ h0)).trans h0, (hb.cell (p := p1) (World.block_lt_of_cell? _ _ h1)).trans h1, ?_, ?_, ?_, (hb.frozen (p := ⟨g, 0, none⟩) hlt).trans h5, (hb.frozen (p := ⟨g, 1, none⟩) hlt).trans h6, (hb.frozen (p := ⟨g, 2, none⟩) hlt).trans h7, hq.trans (hb.mono (Nat.le_trans hB hq.size))⟩
  · exact cv_of (by rw [hb.cell (p := ⟨g, 0, none⟩) hlt, h2]; rfl)
  · exact cv_of (by rw [hb.cell (p := ⟨g, 1, none⟩) hlt, h3]; rfl)
  · exact cv_of (by rw [hb.cell (p := ⟨g, 2, none⟩) hlt, h4]; rfl)
theorem ltJ {w w1 : World} {p0 p1 : Addr} {x0 x1 : Value} {g B : Nat} (H : w1.cell? p0 = some x0 ∧ w1.cell? p1 = some x1 ∧ w1.cell? ⟨g, 0, none⟩ = some (cv w1 g 0) ∧ w1.cell? ⟨g, 1, none⟩ = some (cv w1 g 1) ∧ w1.cell? ⟨g, 2, none⟩ = some (cv w1 g 2) ∧ w1.frozen? ⟨g, 0, none⟩ = false ∧ w1.frozen? ⟨g, 1, none⟩ = false ∧ w1.frozen? ⟨g, 2, none⟩ = false ∧ Below B w w1) : g < w1.heap.size := by
  exact World.block_lt_of_cell? _ _ H.2.2.1
theorem stepJb {w w1 w2 : World} {b0 b1 i0 i1 : Nat} {x0 x1 : Value} {g B B2 : Nat} (H : w1.cell? ⟨b0, i0, none⟩ = some x0 ∧ w1.cell? ⟨b1, i1, none⟩ = some x1 ∧ w1.cell? ⟨g, 0, none⟩ = some (cv w1 g 0) ∧ w1.cell? ⟨g, 1, none⟩ = some (cv w1 g 1) ∧ w1.cell? ⟨g, 2, none⟩ = some (cv w1 g 2) ∧ w1.frozen? ⟨g, 0, none⟩ = false ∧ w1.frozen? ⟨g, 1, none⟩ = false ∧ w1.frozen? ⟨g, 2, none⟩ = false ∧ Below B w w1) (hb : Below B2 w1 w2) (h0 : b0 < B2) (h1 : b1 < B2) (hg : g < B2) (hB : B ≤ B2) :
    w2.cell? ⟨b0, i0, none⟩ = some x0 ∧ w2.cell? ⟨b1, i1, none⟩ = some x1 ∧ w2.cell? ⟨g, 0, none⟩ = some (cv w2 g 0) ∧ w2.cell? ⟨g, 1, none⟩ = some (cv w2 g 1) ∧ w2.cell? ⟨g, 2, none⟩ = some (cv w2 g 2) ∧ w2.frozen? ⟨g, 0, none⟩ = false ∧ w2.frozen? ⟨g, 1, none⟩ = false ∧ w2.frozen? ⟨g, 2, none⟩ = false ∧ Below B w w2 := by
  obtain ⟨k0, k1, h2, h3, h4, h5, h6, h7, hq⟩ := H
  refine ⟨(hb.cell (p := ⟨b0, i0, none⟩) h0).trans k0, (hb.cell (p := ⟨b1, i1, none⟩) h1).trans k1, ?_, ?_, ?_, (hb.frozen (p := ⟨g, 0, none⟩) hg).trans h5, (hb.frozen (p := ⟨g, 1, none⟩) hg).trans h6, (hb.frozen (p := ⟨g, 2, none⟩) hg).trans h7, hq.trans (hb.mono hB)⟩
  · exact cv_of (by rw [hb.cell (p := ⟨g, 0, none⟩) hg, h2]; rfl)
  · exact cv_of (by rw [hb.cell (p := ⟨g, 1, none⟩) hg, h3]; rfl)
  · exact cv_of (by rw [hb.cell (p := ⟨g, 2, none⟩) hg, h4]; rfl)
theorem stepJs {w w1 : World} {b0 b1 i0 i1 : Nat} {x0 x1 : Value} {g B j : Nat} {y : Value} (H : w1.cell? ⟨b0, i0, none⟩ = some x0 ∧ w1.cell? ⟨b1, i1, none⟩ = some x1 ∧ w1.cell? ⟨g, 0, none⟩ = some (cv w1 g 0) ∧ w1.cell? ⟨g, 1, none⟩ = some (cv w1 g 1) ∧ w1.cell? ⟨g, 2, none⟩ = some (cv w1 g 2) ∧ w1.frozen? ⟨g, 0, none⟩ = false ∧ w1.frozen? ⟨g, 1, none⟩ = false ∧ w1.frozen? ⟨g, 2, none⟩ = false ∧ Below B w w1) (h0 : g ≠ b0) (h1 : g ≠ b1) (hg : B ≤ g) :
    (w1.setCell ⟨g, j, none⟩ y).cell? ⟨b0, i0, none⟩ = some x0 ∧ (w1.setCell ⟨g, j, none⟩ y).cell? ⟨b1, i1, none⟩ = some x1 ∧ (w1.setCell ⟨g, j, none⟩ y).cell? ⟨g, 0, none⟩ = some (cv (w1.setCell ⟨g, j, none⟩ y) g 0) ∧ (w1.setCell ⟨g, j, none⟩ y).cell? ⟨g, 1, none⟩ = some (cv (w1.setCell ⟨g, j, none⟩ y) g 1) ∧ (w1.setCell ⟨g, j, none⟩ y).cell? ⟨g, 2, none⟩ = some (cv (w1.setCell ⟨g, j, none⟩ y) g 2) ∧ (w1.setCell ⟨g, j, none⟩ y).frozen? ⟨g, 0, none⟩ = false ∧ (w1.setCell ⟨g, j, none⟩ y).frozen? ⟨g, 1, none⟩ = false ∧ (w1.setCell ⟨g, j, none⟩ y).frozen? ⟨g, 2, none⟩ = false ∧ Below B w (w1.setCell ⟨g, j, none⟩ y) := by
  obtain ⟨k0, k1, h2, h3, h4, h5, h6, h7, hq⟩ := H
  exact ⟨(World.cell?_setCell_far w1 ⟨g, j, none⟩ ⟨b0, i0, none⟩ y h0).trans k0, (World.cell?_setCell_far w1 ⟨g, j, none⟩ ⟨b1, i1, none⟩ y h1).trans k1, cv_of (isSome_set (by rw [h2]; rfl)), cv_of (isSome_set (by rw [h3]; rfl)), cv_of (isSome_set (by rw [h4]; rfl)), (World.frozen?_setCell _ _ _ _).trans h5, (World.frozen?_setCell _ _ _ _).trans h6, (World.frozen?_setCell _ _ _ _).trans h7, hq.setCell hg _⟩
theorem z3J {w w1 w2 : World} {p0 p1 : Addr} {x0 x1 : Value} {g B : Nat} (H : w1.cell? p0 = some x0 ∧ w1.cell? p1 = some x1 ∧ w1.cell? ⟨g, 0, none⟩ = some (cv w1 g 0) ∧ w1.cell? ⟨g, 1, none⟩ = some (cv w1 g 1) ∧ w1.cell? ⟨g, 2, none⟩ = some (cv w1 g 2) ∧ w1.frozen? ⟨g, 0, none⟩ = false ∧ w1.frozen? ⟨g, 1, none⟩ = false ∧ w1.frozen? ⟨g, 2, none⟩ = false ∧ Below B w w1) (hb : Below w1.heap.size w1 w2) :
    w2.cell? ⟨g, 0, none⟩ = some (cv w2 g 0) ∧ w2.cell? ⟨g, 1, none⟩ = some (cv w2 g 1) ∧ w2.cell? ⟨g, 2, none⟩ = some (cv w2 g 2) := by
  obtain ⟨_, _, h2, h3, h4, _⟩ := H
  have hlt : g < w1.heap.size := World.block_lt_of_cell? _ _ h2
  exact ⟨cv_of (by rw [hb.cell (p := ⟨g, 0, none⟩) hlt, h2]; rfl), cv_of (by rw [hb.cell (p := ⟨g, 1, none⟩) hlt, h3]; rfl), cv_of (by rw [hb.cell (p := ⟨g, 2, none⟩) hlt, h4]; rfl)⟩
theorem lastJ {w w1 : World} {p0 p1 : Addr} {x0 x1 : Value} {g B : Nat} (H : w1.cell? p0 = some x0 ∧ w1.cell? p1 = some x1 ∧ w1.cell? ⟨g, 0, none⟩ = some (cv w1 g 0) ∧ w1.cell? ⟨g, 1, none⟩ = some (cv w1 g 1) ∧ w1.cell? ⟨g, 2, none⟩ = some (cv w1 g 2) ∧ w1.frozen? ⟨g, 0, none⟩ = false ∧ w1.frozen? ⟨g, 1, none⟩ = false ∧ w1.frozen? ⟨g, 2, none⟩ = false ∧ Below B w w1) : Below B w w1 := H.2.2.2.2.2.2.2.2
theorem startJ2 (w : World) (x0 x1 x2 y0 y1 y2 : Value) :
    ((((w.alloc (.cells #[x0, x1, x2] 71)).alloc (.cells #[y0, y1, y2] 71)).alloc (.cells #[.bool false, .slice none 0 0, .slice none 0 0] 71)).drew.cell? ⟨w.heap.size, 2, none⟩ = some x2) ∧
    ((((w.alloc (.cells #[x0, x1, x2] 71)).alloc (.cells #[y0, y1, y2] 71)).alloc (.cells #[.bool false, .slice none 0 0, .slice none 0 0] 71)).drew.cell? ⟨w.heap.size + 1, 2, none⟩ = some y2) ∧
    Z3 (((w.alloc (.cells #[x0, x1, x2] 71)).alloc (.cells #[y0, y1, y2] 71)).alloc (.cells #[.bool false, .slice none 0 0, .slice none 0 0] 71)).drew (w.heap.size + 1 + 1) ∧
    Below w.heap.size w (((w.alloc (.cells #[x0, x1, x2] 71)).alloc (.cells #[y0, y1, y2] 71)).alloc (.cells #[.bool false, .slice none 0 0, .slice none 0 0] 71)).drew := by
  have h1 : (w.alloc (.cells #[x0, x1, x2] 71)).heap.size = w.heap.size + 1 := by simp
  have h2 : ((w.alloc (.cells #[x0, x1, x2] 71)).alloc (.cells #[y0, y1, y2] 71)).heap.size = w.heap.size + 1 + 1 := by simp
  have hT := ((Below.refl _ (w.alloc (.cells #[x0, x1, x2] 71))).alloc (Nat.le_refl _) (.cells #[y0, y1, y2] 71)).alloc (by simp) (.cells #[.bool false, .slice none 0 0, .slice none 0 0] 71)
  have hU := (Below.refl _ ((w.alloc (.cells #[x0, x1, x2] 71)).alloc (.cells #[y0, y1, y2] 71))).alloc (Nat.le_refl _) (.cells #[.bool false, .slice none 0 0, .slice none 0 0] 71)
  refine ⟨(hT.drew.cell (p := ⟨w.heap.size, 2, none⟩) (show w.heap.size < _ by omega)).trans (World.cell?_alloc_new w _ _ 2), (hU.drew.cell (p := ⟨w.heap.size + 1, 2, none⟩) (show w.heap.size + 1 < _ by omega)).trans ?_, ?_, ((((Below.refl _ _).alloc (Nat.le_refl _) _).alloc (by simp) _).alloc (by simp; omega) _).drew⟩
  · rw [← h1]; exact World.cell?_alloc_new _ _ _ 2
  · have := Z3.new ((w.alloc (.cells #[x0, x1, x2] 71)).alloc (.cells #[y0, y1, y2] 71))
    rw [h2] at this
    exact this.below (Below.refl _ _).drew
inductive RetN (n : Nd) (w : World) (e : Ending) (w' : World) : Prop
  | mk (v : Value) (he : e = .returned v) (hv : NdV w' v n) (hb : Below w.heap.size w w')
theorem joinT_any (u v : Value) (a b : Nd) (k : List UInt8) (w : World) (hu : NdV w u a) (hv : NdV w v b) (hlf : a.leaf = true) (ha : a.cs.length ≤ 100000) (hb : b.cs.length ≤ 100000) :
    Calls Tryz.prog 158 #[u, .string (str k), v] w (RetN (Sl.joinN a k b) w) := by
  obtain ⟨vc, vk, rfl, hc, hcc, hk, hkk⟩ := hu
  obtain ⟨vc', vk', rfl, hc', hcc', hk', hkk'⟩ := hv
  have HC := Lib.hid (fun g W (hW : Below w.heap.size w W) h0 h1 => concatC_any g vc vc' a.cs b.cs ha hb W (hc.below hW) (hc'.below hW) h0 h1 hcc hcc')
  rw [hlf]
  generalize b.leaf = bl
  unfold ndV
  obtain ⟨a1, n1, c1, _, _, _⟩ := hcc
  obtain ⟨a2, n2, c2, _, _, _⟩ := hkk
  obtain ⟨a3, n3, c3, _, _, _⟩ := hcc'
  obtain ⟨a4, n4, c4, _, _, _⟩ := hkk'
  clear hc hk hc' hk' ha hb
  have HST := Lib.hid (startJ w #[.bool true, .slice a1 n1 c1, .slice a2 n2 c2] #[.bool bl, .slice a3 n3 c3, .slice a4 n4 c4] (.slice a1 n1 c1) (.slice a3 n3 c3) 29)
  go_enter Tryz.func158, Tryz.ntmps158
  go_wp2_with (first
    | (go_at_call 177; refine (HC.out _ _ HST.out.1 HST.out.2.1 HST.out.2.2.1).mono ?_; rintro e w5 ⟨v1, rfl, hr1, hb1⟩; obtain ⟨a5, n5, c5, ha5, hc5, hn5⟩ := hr1.cap; have HR1 := Lib.hid hr1; have HZ1 := Lib.hid (HST.out.2.2.2.1.below hb1); have HB1 := Lib.hid (HST.out.1.trans (hb1.mono HST.out.1.size)); have HS1 := Lib.hid HST.out.2.2.2.2; have HL5 := Lib.hid (fun W => leaf_any (.slice a5 n5 c5) ⟨a5, n5, c5, ha5, hc5, hn5⟩ W); unfold ndV at HL5; clear hr1 hb1)
    | (go_at_call 98; with_reducible refine (HL5.out _).mono ?_; rintro e w6 ⟨rfl, hb6⟩; have HR6 := Lib.hid (HR1.out.below hb6); have HZ6 := Lib.hid (HZ1.out.below hb6); have HB6 := Lib.hid (HB1.out.trans (hb6.mono HB1.out.size)); have z0 := HZ6.out.z0; have z1 := HZ6.out.z1; have z2 := HZ6.out.z2; have z3 := HZ6.out.f0; have z4 := HZ6.out.f1; have z5 := HZ6.out.f2))
  refine bodyPost_ret_by (v := ndV true (.slice a5 n5 c5) (.slice none 0 0)) ?_ rfl ?_
  · simp [ndV, results, Tryz.results158, go_sem, z0, z1, z2]
  · have hq := HS1.out
    refine ⟨ndV true (.slice a5 n5 c5) (.slice none 0 0), rfl, ?_, ?_⟩
    · have h1 : Sl.joinN a k b = ⟨true, a.cs ++ b.cs, []⟩ := by unfold Sl.joinN; rw [if_pos hlf]
      rw [h1]
      exact ⟨.slice a5 n5 c5, .slice none 0 0, rfl, (((HR6.out.set hq _).set hq _).set hq _).sl, ⟨_, _, _, ha5, hc5, hn5⟩, SlK.nil _, cap_nil⟩
    · exact ((HB6.out.setCell (by show _ ≤ _; simp; omega) _).setCell (by show _ ≤ _; simp; omega) _).setCell (by show _ ≤ _; simp; omega) _
theorem joinF_any (u v : Value) (a b : Nd) (k : List UInt8) (w : World) (hu : NdV w u a) (hv : NdV w v b) (hlf : a.leaf = false) (ha : a.ks.length ≤ 100000) (hb : b.ks.length ≤ 100000) :
    Calls Tryz.prog 158 #[u, .string (str k), v] w (RetN (Sl.joinN a k b) w) := by
  obtain ⟨vc, vk, rfl, hc, hcc, hk, hkk⟩ := hu
  obtain ⟨vc', vk', rfl, hc', hcc', hk', hkk'⟩ := hv
  have HCL := Lib.hid (fun W (hW : Below w.heap.size w W) => cloneK_any vk' b.ks hb W (hk'.below hW))
  have HKY := Lib.hid (fun B v W hW (hB : B ≤ W.heap.size) => keyed_any v b.ks k B W hW hB)
  have HC := Lib.hid (fun g v W (hW : Below w.heap.size w W) (hv : SlK W v (Sl.setK k b.ks)) hcv h0 h1 => concatK_any g vk v a.ks (Sl.setK k b.ks) ha (by rw [Sl.setK_len]; exact hb) W (hk.below hW) hv h0 h1 hkk hcv)
  have HBR := Lib.hid (fun v hv W => branch_any v hv W)
  rw [hlf]
  generalize b.leaf = bl
  unfold ndV at HBR ⊢
  obtain ⟨a1, n1, c1, _, _, _⟩ := hcc
  obtain ⟨a2, n2, c2, _, _, _⟩ := hkk
  obtain ⟨a3, n3, c3, _, _, _⟩ := hcc'
  obtain ⟨a4, n4, c4, _, _, _⟩ := hkk'
  clear hc hk hc' hk' ha hb
  have hF : Hid (((((w.alloc (.cells #[.bool false, .slice a1 n1 c1, .slice a2 n2 c2] 71)).alloc (.cells #[.bool bl, .slice a3 n3 c3, .slice a4 n4 c4] 71)).alloc (.cells #[.bool false, .slice none 0 0, .slice none 0 0] 71)).drew.cell? ⟨w.heap.size, 2, none⟩ = some (.slice a2 n2 c2)) ∧ ((((w.alloc (.cells #[.bool false, .slice a1 n1 c1, .slice a2 n2 c2] 71)).alloc (.cells #[.bool bl, .slice a3 n3 c3, .slice a4 n4 c4] 71)).alloc (.cells #[.bool false, .slice none 0 0, .slice none 0 0] 71)).drew.cell? ⟨w.heap.size + 1, 2, none⟩ = some (.slice a4 n4 c4)) ∧ Z3 (((w.alloc (.cells #[.bool false, .slice a1 n1 c1, .slice a2 n2 c2] 71)).alloc (.cells #[.bool bl, .slice a3 n3 c3, .slice a4 n4 c4] 71)).alloc (.cells #[.bool false, .slice none 0 0, .slice none 0 0] 71)).drew (w.heap.size + 1 + 1) ∧ Below w.heap.size w (((w.alloc (.cells #[.bool false, .slice a1 n1 c1, .slice a2 n2 c2] 71)).alloc (.cells #[.bool bl, .slice a3 n3 c3, .slice a4 n4 c4] 71)).alloc (.cells #[.bool false, .slice none 0 0, .slice none 0 0] 71)).drew) := startJ2 w _ _ _ _ _ _
  go_enter Tryz.func158, Tryz.ntmps158
  go_wp2_with fail
  go_outline
  go_region_held3 (fun w' => w'.cell? ⟨w.heap.size, 2, none⟩ = some (.slice a2 n2 c2) ∧ w'.cell? ⟨w.heap.size + 1, 2, none⟩ = some (.slice a4 n4 c4) ∧ w'.cell? ⟨w.heap.size + 1 + 1, 0, none⟩ = some (cv w' (w.heap.size + 1 + 1) 0) ∧ w'.cell? ⟨w.heap.size + 1 + 1, 1, none⟩ = some (cv w' (w.heap.size + 1 + 1) 1) ∧ w'.cell? ⟨w.heap.size + 1 + 1, 2, none⟩ = some (cv w' (w.heap.size + 1 + 1) 2) ∧ w'.frozen? ⟨w.heap.size + 1 + 1, 0, none⟩ = false ∧ w'.frozen? ⟨w.heap.size + 1 + 1, 1, none⟩ = false ∧ w'.frozen? ⟨w.heap.size + 1 + 1, 2, none⟩ = false ∧ Below w.heap.size w w')
    ((first | assumption | exact ⟨hF.out.1, hF.out.2.1, cv_of hF.out.2.2.1.e3.z0, cv_of hF.out.2.2.1.e3.z1, cv_of hF.out.2.2.1.e3.z2, hF.out.2.2.1.f0, hF.out.2.2.1.f1, hF.out.2.2.1.f2, hF.out.2.2.2⟩ | exact stepJ (Nat.le_refl _) ‹_› hb | exact stepJ (Nat.le_refl _) ‹_› ((Below.refl _ _).alloc (Nat.le_refl _) _) | exact stepJb ‹_› hb (by omega) (by omega) (by omega) (by omega) | exact stepJs (stepJs (stepJs ‹_› (by omega) (by omega) (by omega)) (by omega) (by omega) (by omega)) (by omega) (by omega) (by omega)))
    (first
    | (go_at_call 115; with_reducible refine (HBR.out _ HCP4.out _).mono ?_; rintro e w5 ⟨rfl, hb⟩; have HSJ := Lib.hid (z3J (by assumption) hb); have HR5 := Lib.hid (HR4.out.below hb))
    | (go_at_call 178; refine (HC.out _ _ _ (lastJ (by assumption)) (HR2.out.below ((Below.refl _ _).alloc (Nat.le_refl _) _)).sl HCP.out (World.cell?_alloc_new _ _ _ 0) (World.cell?_alloc_new _ _ _ 1)).mono ?_; rintro e w4 ⟨v4, rfl, hr4, hb⟩; obtain ⟨a6, n6, c6, ha6, hc6, hn6⟩ := hr4.cap; have HCP4 := Lib.hid (Cap.mk a6 n6 c6 ha6 hc6 hn6); have HQ4 : Hid (w.heap.size + 1 + 1 < _) := ltJ (by assumption); have HR4 := Lib.hid (hr4.base (Nat.succ_le_of_lt HQ4.out)); clear hr4)
    | (go_at_call 147; refine (HKY.out _ _ _ HR1.out HS1.out).mono ?_; rintro e w2 ⟨rfl, hr2, hb⟩; have HR2 := Lib.hid hr2; clear hr2)
    | (go_at_call 107; refine (HCL.out _ (lastJ (by assumption))).mono ?_; rintro e w1 ⟨v1, rfl, hr1, hb⟩; obtain ⟨a5, n5, c5, ha5, hc5, hn5⟩ := hr1.cap; have HCP := Lib.hid (Cap.mk a5 n5 c5 ha5 hc5 hn5); have HQ0 : Hid (w.heap.size + 1 + 1 < _) := ltJ (by assumption); have HR1 := Lib.hid (hr1.base (Nat.succ_le_of_lt HQ0.out)); have HS1 := Lib.hid (Nat.le_trans (Nat.succ_le_of_lt HQ0.out) hb.size); clear hr1))
  rename_i hS
  have HS := Lib.hid hS
  clear hS
  go_wp2
  obtain ⟨z0, z1, z2⟩ := HSJ.out
  have HB := Lib.hid (lastJ HS.out)
  refine bodyPost_ret_by (v := ndV false (.slice none 0 0) (.slice a6 n6 c6)) ?_ rfl ?_
  · simp [ndV, results, Tryz.results158, go_sem, z0, z1, z2]
  · refine ⟨ndV false (.slice none 0 0) (.slice a6 n6 c6), rfl, ?_, HB.out⟩
    have h1 : Sl.joinN a k b = ⟨false, [], a.ks ++ Sl.setK k b.ks⟩ := by unfold Sl.joinN; rw [hlf]; rfl
    rw [h1]
    have hq := Nat.lt_succ_self (w.heap.size + 1 + 1)
    exact ⟨.slice none 0 0, .slice a6 n6 c6, rfl, SlC.nil _, cap_nil, (((HR5.out.set hq _).set hq _).set hq _).sl, HCP4.out⟩
theorem join_any (u v : Value) (a b : Nd) (k : List UInt8) (w : World) (hu : NdV w u a) (hv : NdV w v b) (h1 : a.cs.length ≤ 100000) (h2 : b.cs.length ≤ 100000) (h3 : a.ks.length ≤ 100000) (h4 : b.ks.length ≤ 100000) :
    Calls Tryz.prog 158 #[u, .string (str k), v] w (RetN (Sl.joinN a k b) w) := by
  cases h : a.leaf with
  | true => exact joinT_any u v a b k w hu hv h h1 h2
  | false => exact joinF_any u v a b k w hu hv h h3 h4
theorem nsame_any (u v : Value) (a : Nd) (w : World) (hu : NdV w u a) (hv : NdV w v a) (h1 : a.cs.length ≤ 100000) (h2 : a.ks.length ≤ 100000) :
    Calls Tryz.prog 30 #[u, v] w fun e w' => e = .returned (.bool true) ∧ Below w.heap.size w w' := by
  obtain ⟨vc, vk, rfl, hc, hcc, hk, hkk⟩ := hu
  obtain ⟨vc', vk', rfl, hc', hcc', hk', hkk'⟩ := hv
  have HC := Lib.hid (fun W (hW : Below w.heap.size w W) => equalC_any vc vc' a.cs h1 W (hc.below hW) (hc'.below hW))
  have HK := Lib.hid (fun W (hW : Below w.heap.size w W) => equalK_any vk vk' a.ks h2 W (hk.below hW) (hk'.below hW))
  unfold ndV
  obtain ⟨a1, n1, c1, _, _, _⟩ := hcc
  obtain ⟨a2, n2, c2, _, _, _⟩ := hkk
  obtain ⟨a3, n3, c3, _, _, _⟩ := hcc'
  obtain ⟨a4, n4, c4, _, _, _⟩ := hkk'
  clear hc hk hc' hk' h1 h2
  have HB : Hid (∀ o1 o2, Below w.heap.size w ((w.alloc o1).alloc o2)) := fun o1 o2 => ((Below.refl _ _).alloc (Nat.le_refl _) _).alloc (by simp) _
  generalize a.leaf = lf
  cases lf with
  | true =>
    go_enter Tryz.func30, Tryz.ntmps30
    go_wp2_with (go_at_call 66; refine (HC.out _ (HB.out _ _)).mono ?_; rintro e w1 ⟨rfl, hb1⟩)
    go_ret
    exact ⟨rfl, (HB.out _ _).trans (hb1.mono (HB.out _ _).size)⟩
  | false =>
    go_enter Tryz.func30, Tryz.ntmps30
    go_wp2_with (go_at_call 67; refine (HK.out _ (HB.out _ _)).mono ?_; rintro e w1 ⟨rfl, hb1⟩)
    go_ret
    exact ⟨rfl, (HB.out _ _).trans (hb1.mono (HB.out _ _).size)⟩
theorem nsame_not (u v : Value) (a b : Nd) (w : World) (hu : NdV w u a) (hv : NdV w v b) (hne : a.leaf = !b.leaf) :
    Calls Tryz.prog 30 #[u, v] w fun e w' => e = .returned (.bool false) ∧ Below w.heap.size w w' := by
  obtain ⟨vc, vk, rfl, hc, hcc, hk, hkk⟩ := hu
  obtain ⟨vc', vk', rfl, hc', hcc', hk', hkk'⟩ := hv
  unfold ndV
  obtain ⟨a1, n1, c1, _, _, _⟩ := hcc
  obtain ⟨a2, n2, c2, _, _, _⟩ := hkk
  obtain ⟨a3, n3, c3, _, _, _⟩ := hcc'
  obtain ⟨a4, n4, c4, _, _, _⟩ := hkk'
  clear hc hk hc' hk'
  rw [hne]
  cases b.leaf with
  | true =>
    go_enter Tryz.func30, Tryz.ntmps30
    go_wp2
    go_ret
    exact ⟨rfl, ((Below.refl _ _).alloc (Nat.le_refl _) _).alloc (by simp) _⟩
  | false =>
    go_enter Tryz.func30, Tryz.ntmps30
    go_wp2
    go_ret
    exact ⟨rfl, ((Below.refl _ _).alloc (Nat.le_refl _) _).alloc (by simp) _⟩
end Go.Proofs.YtdgcdekgleegbaaGreat
/- The contracts of New, copied and has of a space in memory. -/
namespace Go.Proofs.YtdgcdekgleegbaaGreat
open Go.RowKit Go.Maps
open Sl (Cl Kd Nd Rn)
theorem new_any (w : World) : Calls Tryz.prog 9 #[] w fun e w' => e = .returned (.pointer (some ⟨w.heap.size + 1, 0, none⟩)) ∧ Mem w' (w.heap.size + 1) w.heap.size (w.heap.size + 1 + 1) 0 0 0 (fun _ => none) ∧ Below w.heap.size w w' := by
  have hmm := @run_makeMap Tryz.prog
  go_enter Tryz.func9, Tryz.ntmps9
  go_wp2
  go_ret
  have hs : (w.alloc (.map #[] 0)).heap.size = w.heap.size + 1 := by simp
  have c := fun i => World.cell?_alloc_new (w.alloc (.map #[] 0)) #[.map (some w.heap.size), .int .u32 0, .int .u32 0] 95 i
  have f := fun i => World.frozen?_alloc_new (w.alloc (.map #[] 0)) #[.map (some w.heap.size), .int .u32 0, .int .u32 0] 95 i
  rw [hs] at c f
  refine ⟨rfl, ⟨c 0, c 1, c 2, f 0, f 1, f 2, ⟨_, (MapN.made w).kept ?_, fun _ _ _ => rfl, fun _ _ _ h => by cases h⟩, Nat.lt_succ_self _, by omega, by omega⟩, ((Below.refl _ _).alloc (Nat.le_refl _) _).alloc (by simp) _⟩
  exact ((Below.refl (w.heap.size + 1) _).alloc (by simp) _).block _ (Nat.lt_succ_self _)
theorem stepT {w w1 w2 : World} {p0 p1 p2 : Addr} {x0 x1 x2 : Value} {g B : Nat} (hB : B ≤ w.heap.size) (H : w1.cell? p0 = some x0 ∧ w1.cell? p1 = some x1 ∧ w1.cell? p2 = some x2 ∧ w1.cell? ⟨g, 0, none⟩ = some (cv w1 g 0) ∧ w1.cell? ⟨g, 1, none⟩ = some (cv w1 g 1) ∧ w1.cell? ⟨g, 2, none⟩ = some (cv w1 g 2) ∧ w1.frozen? ⟨g, 0, none⟩ = false ∧ w1.frozen? ⟨g, 1, none⟩ = false ∧ w1.frozen? ⟨g, 2, none⟩ = false ∧ Below B w w1) (hb : Below w1.heap.size w1 w2) : w2.cell? p0 = some x0 ∧ w2.cell? p1 = some x1 ∧ w2.cell? p2 = some x2 ∧ w2.cell? ⟨g, 0, none⟩ = some (cv w2 g 0) ∧ w2.cell? ⟨g, 1, none⟩ = some (cv w2 g 1) ∧ w2.cell? ⟨g, 2, none⟩ = some (cv w2 g 2) ∧ w2.frozen? ⟨g, 0, none⟩ = false ∧ w2.frozen? ⟨g, 1, none⟩ = false ∧ w2.frozen? ⟨g, 2, none⟩ = false ∧ Below B w w2 := by
  obtain ⟨h0, h1, hp2, h2, h3, h4, h5, h6, h7, hq⟩ := H
  have hlt : g < w1.heap.size := World.block_lt_of_cell? _ _ h2
  refine ⟨(hb.cell (p := p0) (World.block_lt_of_cell? _ _ h0)).trans h0, (hb.cell (p := p1) (World.block_lt_of_cell? _ _ h1)).trans h1, (hb.cell (p := p2) (World.block_lt_of_cell? _ _ hp2)).trans hp2, ?_, ?_, ?_, (hb.frozen (p := ⟨g, 0, none⟩) hlt).trans h5, (hb.frozen (p := ⟨g, 1, none⟩) hlt).trans h6, (hb.frozen (p := ⟨g, 2, none⟩) hlt).trans h7, hq.trans (hb.mono (Nat.le_trans hB hq.size))⟩
  · exact cv_of (by rw [hb.cell (p := ⟨g, 0, none⟩) hlt, h2]; rfl)
  · exact cv_of (by rw [hb.cell (p := ⟨g, 1, none⟩) hlt, h3]; rfl)
  · exact cv_of (by rw [hb.cell (p := ⟨g, 2, none⟩) hlt, h4]; rfl)
theorem stepTs {w w1 : World} {b0 i0 i1 i2 : Nat} {x0 x1 x2 : Value} {g B j : Nat} {y : Value} (H : w1.cell? ⟨b0, i0, none⟩ = some x0 ∧ w1.cell? ⟨b0, i1, none⟩ = some x1 ∧ w1.cell? ⟨b0, i2, none⟩ = some x2 ∧ w1.cell? ⟨g, 0, none⟩ = some (cv w1 g 0) ∧ w1.cell? ⟨g, 1, none⟩ = some (cv w1 g 1) ∧ w1.cell? ⟨g, 2, none⟩ = some (cv w1 g 2) ∧ w1.frozen? ⟨g, 0, none⟩ = false ∧ w1.frozen? ⟨g, 1, none⟩ = false ∧ w1.frozen? ⟨g, 2, none⟩ = false ∧ Below B w w1) (hg : b0 ≠ g) (hB : B ≤ g) : (w1.setCell ⟨g, j, none⟩ y).cell? ⟨b0, i0, none⟩ = some x0 ∧ (w1.setCell ⟨g, j, none⟩ y).cell? ⟨b0, i1, none⟩ = some x1 ∧ (w1.setCell ⟨g, j, none⟩ y).cell? ⟨b0, i2, none⟩ = some x2 ∧ (w1.setCell ⟨g, j, none⟩ y).cell? ⟨g, 0, none⟩ = some (cv (w1.setCell ⟨g, j, none⟩ y) g 0) ∧ (w1.setCell ⟨g, j, none⟩ y).cell? ⟨g, 1, none⟩ = some (cv (w1.setCell ⟨g, j, none⟩ y) g 1) ∧ (w1.setCell ⟨g, j, none⟩ y).cell? ⟨g, 2, none⟩ = some (cv (w1.setCell ⟨g, j, none⟩ y) g 2) ∧ (w1.setCell ⟨g, j, none⟩ y).frozen? ⟨g, 0, none⟩ = false ∧ (w1.setCell ⟨g, j, none⟩ y).frozen? ⟨g, 1, none⟩ = false ∧ (w1.setCell ⟨g, j, none⟩ y).frozen? ⟨g, 2, none⟩ = false ∧ Below B w (w1.setCell ⟨g, j, none⟩ y) := by
  obtain ⟨h0, h1, hp2, h2, h3, h4, h5, h6, h7, hq⟩ := H
  have ne : ∀ i, (⟨g, j, none⟩ : Addr) ≠ ⟨b0, i, none⟩ := fun i e => hg (by cases e; rfl)
  refine ⟨(World.cell?_setCell_other _ _ _ _ (ne _)).trans h0, (World.cell?_setCell_other _ _ _ _ (ne _)).trans h1, (World.cell?_setCell_other _ _ _ _ (ne _)).trans hp2, cv_of (isSome_set (by rw [h2]; rfl)), cv_of (isSome_set (by rw [h3]; rfl)), cv_of (isSome_set (by rw [h4]; rfl)), (World.frozen?_setCell _ _ _ _).trans h5, (World.frozen?_setCell _ _ _ _).trans h6, (World.frozen?_setCell _ _ _ _).trans h7, hq.setCell (p := ⟨g, j, none⟩) hB y⟩
theorem lastT {w w1 : World} {p0 p1 p2 : Addr} {x0 x1 x2 : Value} {g B : Nat} (H : w1.cell? p0 = some x0 ∧ w1.cell? p1 = some x1 ∧ w1.cell? p2 = some x2 ∧ w1.cell? ⟨g, 0, none⟩ = some (cv w1 g 0) ∧ w1.cell? ⟨g, 1, none⟩ = some (cv w1 g 1) ∧ w1.cell? ⟨g, 2, none⟩ = some (cv w1 g 2) ∧ w1.frozen? ⟨g, 0, none⟩ = false ∧ w1.frozen? ⟨g, 1, none⟩ = false ∧ w1.frozen? ⟨g, 2, none⟩ = false ∧ Below B w w1) : Below B w w1 := H.2.2.2.2.2.2.2.2.2
theorem ltT {w w1 : World} {p0 p1 p2 : Addr} {x0 x1 x2 : Value} {g B : Nat} (H : w1.cell? p0 = some x0 ∧ w1.cell? p1 = some x1 ∧ w1.cell? p2 = some x2 ∧ w1.cell? ⟨g, 0, none⟩ = some (cv w1 g 0) ∧ w1.cell? ⟨g, 1, none⟩ = some (cv w1 g 1) ∧ w1.cell? ⟨g, 2, none⟩ = some (cv w1 g 2) ∧ w1.frozen? ⟨g, 0, none⟩ = false ∧ w1.frozen? ⟨g, 1, none⟩ = false ∧ w1.frozen? ⟨g, 2, none⟩ = false ∧ Below B w w1) : g < w1.heap.size := World.block_lt_of_cell? _ _ H.2.2.2.1
theorem startT (w : World) (x0 x1 x2 : Value) : (((w.alloc (.cells #[x0, x1, x2] 71)).alloc (.cells #[.bool false, .slice none 0 0, .slice none 0 0] 71)).drew).cell? ⟨w.heap.size, 0, none⟩ = some x0 ∧ (((w.alloc (.cells #[x0, x1, x2] 71)).alloc (.cells #[.bool false, .slice none 0 0, .slice none 0 0] 71)).drew).cell? ⟨w.heap.size, 1, none⟩ = some x1 ∧ (((w.alloc (.cells #[x0, x1, x2] 71)).alloc (.cells #[.bool false, .slice none 0 0, .slice none 0 0] 71)).drew).cell? ⟨w.heap.size, 2, none⟩ = some x2 ∧ (((w.alloc (.cells #[x0, x1, x2] 71)).alloc (.cells #[.bool false, .slice none 0 0, .slice none 0 0] 71)).drew).cell? ⟨w.heap.size + 1, 0, none⟩ = some (cv (((w.alloc (.cells #[x0, x1, x2] 71)).alloc (.cells #[.bool false, .slice none 0 0, .slice none 0 0] 71)).drew) (w.heap.size + 1) 0) ∧ (((w.alloc (.cells #[x0, x1, x2] 71)).alloc (.cells #[.bool false, .slice none 0 0, .slice none 0 0] 71)).drew).cell? ⟨w.heap.size + 1, 1, none⟩ = some (cv (((w.alloc (.cells #[x0, x1, x2] 71)).alloc (.cells #[.bool false, .slice none 0 0, .slice none 0 0] 71)).drew) (w.heap.size + 1) 1) ∧ (((w.alloc (.cells #[x0, x1, x2] 71)).alloc (.cells #[.bool false, .slice none 0 0, .slice none 0 0] 71)).drew).cell? ⟨w.heap.size + 1, 2, none⟩ = some (cv (((w.alloc (.cells #[x0, x1, x2] 71)).alloc (.cells #[.bool false, .slice none 0 0, .slice none 0 0] 71)).drew) (w.heap.size + 1) 2) ∧ (((w.alloc (.cells #[x0, x1, x2] 71)).alloc (.cells #[.bool false, .slice none 0 0, .slice none 0 0] 71)).drew).frozen? ⟨w.heap.size + 1, 0, none⟩ = false ∧ (((w.alloc (.cells #[x0, x1, x2] 71)).alloc (.cells #[.bool false, .slice none 0 0, .slice none 0 0] 71)).drew).frozen? ⟨w.heap.size + 1, 1, none⟩ = false ∧ (((w.alloc (.cells #[x0, x1, x2] 71)).alloc (.cells #[.bool false, .slice none 0 0, .slice none 0 0] 71)).drew).frozen? ⟨w.heap.size + 1, 2, none⟩ = false ∧ Below w.heap.size w (((w.alloc (.cells #[x0, x1, x2] 71)).alloc (.cells #[.bool false, .slice none 0 0, .slice none 0 0] 71)).drew) := by
  refine ⟨box0 w _ _ _ _ 0, box0 w _ _ _ _ 1, box0 w _ _ _ _ 2, cv_of (congrArg Option.isSome (show _ = some (Value.bool false) from box1 w #[x0, x1, x2] #[.bool false, .slice none 0 0, .slice none 0 0] 71 71 0)), cv_of (congrArg Option.isSome (show _ = some (Value.slice none 0 0) from box1 w #[x0, x1, x2] #[.bool false, .slice none 0 0, .slice none 0 0] 71 71 1)), cv_of (congrArg Option.isSome (show _ = some (Value.slice none 0 0) from box1 w #[x0, x1, x2] #[.bool false, .slice none 0 0, .slice none 0 0] 71 71 2)), box1f w _ _ _ _ 0, box1f w _ _ _ _ 1, box1f w _ _ _ _ 2, (boxB w _ _).drew⟩
theorem copied_any (v : Value) (n : Nd) (w : World) (hv : NdV w v n) (h1 : n.cs.length ≤ 100000) (h2 : n.ks.length ≤ 100000) :
    Calls Tryz.prog 63 #[v] w fun e w' => ∃ v', e = .returned v' ∧ NdO w' w.heap.size v' n ∧ Below w.heap.size w w' := by
  obtain ⟨vc, vk, rfl, hc, hcc, hk, hkk⟩ := hv
  obtain ⟨lf, cs, ks⟩ := n
  have HC := Lib.hid (fun W (hW : Below w.heap.size w W) => cloneC_any vc cs h1 W (hc.below hW))
  have HK := Lib.hid (fun W (hW : Below w.heap.size w W) => cloneK_any vk ks h2 W (hk.below hW))
  unfold ndV
  obtain ⟨a, m, c, _, _, _⟩ := hcc
  obtain ⟨a', m', c', _, _, _⟩ := hkk
  clear hc hk h1 h2
  have HST := Lib.hid (startT w (.bool lf) (.slice a m c) (.slice a' m' c'))
  go_enter Tryz.func63, Tryz.ntmps63
  go_wp2_with fail
  go_region_held3 (fun w' => w'.cell? ⟨w.heap.size, 0, none⟩ = some (.bool lf) ∧ w'.cell? ⟨w.heap.size, 1, none⟩ = some (.slice a m c) ∧ w'.cell? ⟨w.heap.size, 2, none⟩ = some (.slice a' m' c') ∧ w'.cell? ⟨w.heap.size + 1, 0, none⟩ = some (cv w' (w.heap.size + 1) 0) ∧ w'.cell? ⟨w.heap.size + 1, 1, none⟩ = some (cv w' (w.heap.size + 1) 1) ∧ w'.cell? ⟨w.heap.size + 1, 2, none⟩ = some (cv w' (w.heap.size + 1) 2) ∧ w'.frozen? ⟨w.heap.size + 1, 0, none⟩ = false ∧ w'.frozen? ⟨w.heap.size + 1, 1, none⟩ = false ∧ w'.frozen? ⟨w.heap.size + 1, 2, none⟩ = false ∧ Below w.heap.size w w')
    ((first | assumption | exact HST.out | exact stepT (Nat.le_refl _) ‹_› hb | exact stepTs (stepTs (stepTs ‹_› (by omega) (by omega)) (by omega) (by omega)) (by omega) (by omega)))
    (first
    | (go_at_call 106; refine (HC.out _ (lastT (by assumption))).mono ?_; rintro e w1 ⟨v1, rfl, hr1, hb⟩; obtain ⟨a5, n5, c5, ha5, hc5, hn5⟩ := hr1.cap; have HQ : Hid (w.heap.size + 1 < _) := ltT (by assumption); have HR1 := Lib.hid (hr1.base (Nat.succ_le_of_lt HQ.out)); have HQ1 := Lib.hid (Nat.lt_of_lt_of_le HQ.out hb.size); clear hr1)
    | (go_at_call 107; refine (HK.out _ (lastT (by assumption))).mono ?_; rintro e w2 ⟨v2, rfl, hr2, hb⟩; obtain ⟨a6, n6, c6, ha6, hc6, hn6⟩ := hr2.cap; have HR3 := Lib.hid (HR1.out.below hb); have HR2 := Lib.hid (hr2.base (Nat.succ_le_of_lt HQ1.out)); have HSJ := Lib.hid (stepT (Nat.le_refl _) (by assumption) hb); clear hr2))
  rename_i hS
  clear hS
  obtain ⟨_, _, _, z0, z1, z2, f0, f1, f2, hbl⟩ := HSJ.out
  go_wp2
  refine bodyPost_ret_by (v := ndV lf (.slice a5 n5 c5) (.slice a6 n6 c6)) ?_ rfl ?_
  · simp [ndV, results, Tryz.results63, go_sem, z0, z1, z2]
  · have hq := Nat.lt_succ_self (w.heap.size + 1)
    have hB : w.heap.size ≤ (w.heap.size + 1).succ := by omega
    exact ⟨_, rfl, ⟨_, _, rfl, (((HR3.out.set hq _).set hq _).set hq _).base hB, (((HR2.out.set hq _).set hq _).set hq _).base hB⟩, below_set3 hbl (Nat.le_succ _)⟩
theorem Mem.none_at {w : World} {p b B n made frozen : Nat} {F : Nat → Option Nd} (h : Mem w p b B n made frozen F) {k : Nat} (hk : k < 4294967296) (hF : F k = none) :
    (Instr.lookup 93 (.map (some b)) (.int .u32 k) true).run Tryz.prog w = .ok (.tuple #[.agg #[.bool false, .slice none 0 0, .slice none 0 0], .bool false]) w := by
  obtain ⟨f, hm, h1, h2⟩ := h.map
  have := hm.lookOk hk
  rw [h1 k hk hF] at this
  exact this
theorem Mem.some_at {w : World} {p b B n made frozen : Nat} {F : Nat → Option Nd} (h : Mem w p b B n made frozen F) {k : Nat} (hk : k < 4294967296) {nd : Nd} (hF : F k = some nd) :
    ∃ (a : Option Addr) (m c : Nat) (a' : Option Addr) (m' c' : Nat), (Instr.lookup 93 (.map (some b)) (.int .u32 k) true).run Tryz.prog w = .ok (.tuple #[.agg #[.bool nd.leaf, .slice a m c, .slice a' m' c'], .bool true]) w ∧
      (Instr.lookup 93 (.map (some b)) (.int .u32 k) false).run Tryz.prog w = .ok (.agg #[.bool nd.leaf, .slice a m c, .slice a' m' c']) w ∧ NdO w B (.agg #[.bool nd.leaf, .slice a m c, .slice a' m' c']) nd := by
  obtain ⟨f, hm, h1, h2⟩ := h.map
  obtain ⟨v, hv, hn⟩ := h2 k nd hk hF
  have e1 := hm.lookOk hk
  have e2 := hm.look hk
  rw [hv] at e1 e2
  have hn2 := hn
  obtain ⟨vc, vk, rfl, hc, hk2⟩ := hn
  obtain ⟨a, m, c, _, _, _⟩ := hc.cap
  obtain ⟨a', m', c', _, _, _⟩ := hk2.cap
  exact ⟨a, m, c, a', m', c', e1, e2, hn2⟩
theorem has_none {w : World} {p b B n made frozen : Nat} {F : Nat → Option Nd} (h : Mem w p b B n made frozen F) {k : Nat} (hk : k < 4294967296) (hF : F k = none) :
    Calls Tryz.prog 65 #[.pointer (some ⟨p, 0, none⟩), .int .u32 k] w fun e w' => e = .returned (.bool false) ∧ Below w.heap.size w w' := by
  have c0 := h.c0
  have e1 := h.none_at hk hF
  go_enter Tryz.func65, Tryz.ntmps65
  go_wp2
  go_ret
  exact ⟨rfl, (Below.refl _ w).alloc (Nat.le_refl _) _⟩
theorem has_some {w : World} {p b B n made frozen : Nat} {F : Nat → Option Nd} (h : Mem w p b B n made frozen F) {k : Nat} (hk : k < 4294967296) {nd : Nd} (hF : F k = some nd) :
    Calls Tryz.prog 65 #[.pointer (some ⟨p, 0, none⟩), .int .u32 k] w fun e w' => e = .returned (.bool true) ∧ Below w.heap.size w w' := by
  have c0 := h.c0
  obtain ⟨a, m, c, a', m', c', e1, _, _⟩ := h.some_at hk hF
  go_enter Tryz.func65, Tryz.ntmps65
  go_wp2
  go_ret
  exact ⟨rfl, (Below.refl _ w).alloc (Nat.le_refl _) _⟩
end Go.Proofs.YtdgcdekgleegbaaGreat
/- The contracts of Load, Own, Make, Save, Drop and Freeze of a space in memory. -/
namespace Go.Proofs.YtdgcdekgleegbaaGreat
open Go.RowKit Go.Maps
open Sl (Cl Kd Nd Rn)
theorem load_none {w : World} {p b B n made frozen : Nat} {F : Nat → Option Nd} (h : Mem w p b B n made frozen F) {k : Nat} (hk : k < 4294967296) (hF : F k = none) :
    Calls Tryz.prog 29 #[.pointer (some ⟨p, 0, none⟩), .int .u32 k] w fun e w' => e = .returned (.tuple #[.agg #[.bool false, .slice none 0 0, .slice none 0 0], .int .i64 12]) ∧ Below w.heap.size w w' := by
  have HB0 : Hid (∀ o1, Below w.heap.size w (w.alloc o1)) := fun o1 => (Below.refl _ _).alloc (Nat.le_refl _) _
  have HH := Lib.hid (fun W (hW : Below w.heap.size w W) => has_none (h.below hW) hk hF)
  have HZ := Lib.hid (Z3.new w)
  go_enter Tryz.func29, Tryz.ntmps29
  go_wp2_with (go_at_call 65; refine (HH.out _ (HB0.out _)).mono ?_; rintro e w1 ⟨rfl, hb1⟩; have HB1 := Lib.hid ((HB0.out _).trans (hb1.mono (HB0.out _).size)); have HZ1 := HZ.out.below hb1; have z0 := HZ1.z0; have z1 := HZ1.z1; have z2 := HZ1.z2; have y0 := HZ1.f0; have y1 := HZ1.f1; have y2 := HZ1.f2; clear hb1)
  refine bodyPost_ret_by (v := .tuple #[.agg #[.bool false, .slice none 0 0, .slice none 0 0], .int .i64 12]) ?_ rfl ⟨rfl, ?_⟩
  · simp [results, Tryz.results29, go_sem, z0, z1, z2]
  · exact below_set3 HB1.out (Nat.le_refl _)
theorem load_some {w : World} {p b B n made frozen : Nat} {F : Nat → Option Nd} (h : Mem w p b B n made frozen F) {k : Nat} (hk : k < 4294967296) {nd : Nd} (hF : F k = some nd) (h1 : nd.cs.length ≤ 100000) (h2 : nd.ks.length ≤ 100000) :
    Calls Tryz.prog 29 #[.pointer (some ⟨p, 0, none⟩), .int .u32 k] w fun e w' => ∃ v, e = .returned (.tuple #[v, .int .i64 0]) ∧ NdO w' w.heap.size v nd ∧ Below w.heap.size w w' := by
  have HB0 : Hid (∀ o1, Below w.heap.size w (w.alloc o1)) := fun o1 => (Below.refl _ _).alloc (Nat.le_refl _) _
  have HH := Lib.hid (fun W (hW : Below w.heap.size w W) => has_some (h.below hW) hk hF)
  have HM := Lib.hid (fun W (hW : Below w.heap.size w W) => h.below hW)
  have HC := Lib.hid (fun v W hv => copied_any v nd W hv h1 h2)
  have HZ := Lib.hid (Z3.new w)
  go_enter Tryz.func29, Tryz.ntmps29
  go_wp2_with (first
    | (go_at_call 65; refine (HH.out _ (HB0.out _)).mono ?_; rintro e w1 ⟨rfl, hb1⟩; have HB1 := Lib.hid ((HB0.out _).trans (hb1.mono (HB0.out _).size)); have HZ1 := Lib.hid (HZ.out.below hb1); have c0 := (HM.out _ HB1.out).c0; obtain ⟨a, m, c, a', m', c', _, e2, hn⟩ := (HM.out _ HB1.out).some_at hk hF; have HN := Lib.hid hn; clear hb1 hn)
    | (go_at_call 63; refine (HC.out _ _ HN.out.nd).mono ?_; rintro e w2 ⟨v, rfl, hv, hb2⟩; obtain ⟨vc, vk, rfl, hc, hk2⟩ := hv; obtain ⟨a5, n5, c5, _, _, _⟩ := hc.cap; obtain ⟨a6, n6, c6, _, _, _⟩ := hk2.cap; unfold ndV; have HB2 := Lib.hid (HB1.out.trans (hb2.mono HB1.out.size)); have HC2 := Lib.hid (hc.base (Nat.succ_le_of_lt HZ1.out.lt)); have HK2 := Lib.hid (hk2.base (Nat.succ_le_of_lt HZ1.out.lt)); have HZ2 := HZ1.out.below hb2; have z0 := HZ2.z0; have z1 := HZ2.z1; have z2 := HZ2.z2; have y0 := HZ2.f0; have y1 := HZ2.f1; have y2 := HZ2.f2; clear hb2 hc hk2))
  refine bodyPost_ret_by (v := .tuple #[.agg #[.bool nd.leaf, .slice a5 n5 c5, .slice a6 n6 c6], .int .i64 0]) ?_ rfl ?_
  · simp [results, Tryz.results29, go_sem, z0, z1, z2]
  · have hq := Nat.lt_succ_self w.heap.size
    exact ⟨_, rfl, ⟨_, _, rfl, (((HC2.out.set hq _).set hq _).set hq _).base (Nat.le_succ _), (((HK2.out.set hq _).set hq _).set hq _).base (Nat.le_succ _)⟩, below_set3 HB2.out (Nat.le_refl _)⟩
theorem own_none {w : World} {p b B n made frozen : Nat} {F : Nat → Option Nd} (h : Mem w p b B n made frozen F) {k : Nat} (hk : k < 4294967296) (hF : F k = none) :
    Calls Tryz.prog 31 #[.pointer (some ⟨p, 0, none⟩), .int .u32 k] w fun e w' => e = .returned (.bool false) ∧ Below w.heap.size w w' := by
  have HH := Lib.hid (has_none h hk hF)
  go_enter Tryz.func31, Tryz.ntmps31
  go_wp2_with (go_at_call 65; refine (HH.out).mono ?_; rintro e w1 ⟨rfl, hb1⟩; have HB1 := Lib.hid hb1; clear hb1)
  go_ret
  exact ⟨rfl, HB1.out⟩
theorem own_some {w : World} {p b B n made frozen : Nat} {F : Nat → Option Nd} (h : Mem w p b B n made frozen F) {k : Nat} (hk : k < 4294967296) (hk2 : 2 ≤ k) {nd : Nd} (hF : F k = some nd) :
    Calls Tryz.prog 31 #[.pointer (some ⟨p, 0, none⟩), .int .u32 k] w fun e w' => e = .returned (.bool (decide (frozen + 2 ≤ k))) ∧ Below w.heap.size w w' := by
  have HH := Lib.hid (has_some h hk hF)
  have HM := Lib.hid (fun W (hW : Below w.heap.size w W) => (h.below hW).c2)
  have hw : IntKind.u32.wrap ((k : Int) - 2) = (k : Int) - 2 := by rw [IntKind.wrap_u32]; omega
  have hd : decide ((frozen : Int) ≤ (k : Int) - 2) = decide (frozen + 2 ≤ k) := by congr 1; apply propext; omega
  go_enter Tryz.func31, Tryz.ntmps31
  go_wp2_with (go_at_call 65; refine (HH.out).mono ?_; rintro e w1 ⟨rfl, hb1⟩; have HB1 := Lib.hid hb1; have c2 := HM.out _ hb1; clear hb1)
  go_ret
  exact ⟨by first | rfl | (rw [← hd]; rfl) | (rw [← hd]; congr), HB1.out⟩
theorem freeze_any {w : World} {p b B n made frozen : Nat} {F : Nat → Option Nd} (h : Mem w p b B n made frozen F) :
    Calls Tryz.prog 16 #[.pointer (some ⟨p, 0, none⟩)] w fun e w' => e = .returned (.tuple #[]) ∧ Mem w' p b B n made made F ∧ Two p b w w' := by
  have H := Lib.hid h
  have c1 := h.c1
  have c2 := h.c2
  have f2 := h.f2
  clear h
  go_enter Tryz.func16, Tryz.ntmps16
  go_wp2
  go_end0
  have ht : Two p b w (w.setCell ⟨p, 2, none⟩ (.int .u32 made)) := Two.set w 2 _
  refine ⟨rfl, ?_, ht⟩
  have h := H.out
  obtain ⟨f, hm, h1, h2⟩ := h.map
  refine ⟨(World.cell?_setCell_other _ _ _ _ (by simp)).trans h.c0, (World.cell?_setCell_other _ _ _ _ (by simp)).trans h.c1, World.cell?_setCell_same' _ _ _ (by rw [h.c2]; rfl), (World.frozen?_setCell _ _ _ _).trans h.f0, (World.frozen?_setCell _ _ _ _).trans h.f1, (World.frozen?_setCell _ _ _ _).trans h.f2, ⟨f, hm.kept (RowKit.Below.heap_setCell _ _ _ _ h.ne.symm), h1, fun k nd hk hF => ?_⟩, h.pB, h.bB, h.ne⟩
  obtain ⟨v, hv, hn⟩ := h2 k nd hk hF
  exact ⟨v, hv, hn.two ht h.pB h.bB⟩
end Go.Proofs.YtdgcdekgleegbaaGreat
