/- The contract of the document's own Split. -/
import Derived.Test.YtilccpklbaglpaaRJoin
import Derived.Test.YtilccpklbaglpaaRefSum
import Derived.Test.YtilccpklbaglpaaNMath
import Derived.StillTailTactics
import Derived.Deep.DeepCutAuto
import Derived.Deep.RegionWith
set_option maxRecDepth 100000
set_option maxHeartbeats 4000000
set_option linter.unusedVariables false
namespace Go.Proofs.Ytilccpklbaglpaa.Sl
def rsQ (n : Rn) : Nat := cutAt (shR n.leaf) n.l
def rsA (n : Rn) : Rn := ⟨n.leaf, n.l.take (rsQ n)⟩
def rsB (n : Rn) : Rn := ⟨n.leaf, keyR n.leaf [] (n.l.drop (rsQ n))⟩
def rsK (n : Rn) : List UInt8 := fkey (shR n.leaf) (n.l.drop (rsQ n))
theorem rsQ_small (n : Rn) (h : n.l.length < 2) : rsQ n = n.l.length := by unfold rsQ cutAt; rw [if_pos h]
end Go.Proofs.Ytilccpklbaglpaa.Sl
namespace Go.Proofs.Ytilccpklbaglpaa
open Go.RowKit
open Sl (Cl Kd Nd Rn)
inductive SplitR (n : Rn) (w : World) (e : Ending) (w' : World) : Prop
  | mk (u v : Value) (he : e = .returned (.tuple #[u, .string (str (Sl.rsK n)), v])) (hu : RnV w' u (Sl.rsA n)) (hv : RnV w' v (Sl.rsB n)) (hb : Below w.heap.size w w')
theorem rsplit_small (v : Value) (n : Rn) (w : World) (hv : RnV w v n) (hl : n.l.length < 2) :
    Calls Try.prog 28 #[v] w (SplitR n w) := by
  have HV := Lib.hid hv
  obtain ⟨vc, rfl, hc, hcc⟩ := hv
  have hq := Sl.rsQ_small n hl
  have hA : Sl.rsA n = n := by unfold Sl.rsA; rw [hq, List.take_length]
  have hB : Sl.rsB n = ⟨n.leaf, []⟩ := by
    unfold Sl.rsB; rw [hq, List.drop_length]
    cases n.leaf <;> rfl
  have hK : Sl.rsK n = [] := by unfold Sl.rsK; rw [hq, List.drop_length]; rfl
  have HO : Hid (∀ u v w', u = rnV n.leaf vc → v = rnV n.leaf (.slice none 0 0) → Below w.heap.size w w' → SplitR n w (.returned (.tuple #[u, .string ⟨#[]⟩, v])) w') := fun u v w' hu hv hb => by
    refine ⟨u, v, ?_, ?_, ?_, hb⟩
    · rw [hK]; rfl
    · rw [hA, hu]; exact HV.out.below hb
    · rw [hB, hv]; exact ⟨_, rfl, SlC.nil _, cap_nil⟩
  clear HV hA hB hK hq
  unfold rnV
  obtain ⟨a, b, o, c, rfl, h1, hx1⟩ := hc
  have hlen : (n.l.length : Int) < 2 := by omega
  clear hcc h1 hx1 hl
  unfold rnV at HO
  revert HO hlen
  generalize n.leaf = lf
  intro HO hlen
  go_enter Try.func28, Try.ntmps28
  go_wp2_with fail
  go_region_with (fail)
  all_goals
    go_wp2
    refine bodyPost_ret_by (v := .tuple #[.agg #[.bool lf, .slice a n.l.length c], .string ⟨#[]⟩, .agg #[.bool lf, .slice none 0 0]]) ?_ rfl (HO.out _ _ _ rfl rfl ?_)
    · simp [results, Try.results28, go_sem]
    · first
      | exact (((Below.refl _ _).alloc (Nat.le_refl _) _).alloc (by simp) _).alloc (by simp <;> omega) _
      | exact ((((Below.refl _ _).alloc (Nat.le_refl _) _).alloc (by simp) _).alloc (by simp <;> omega) _).drew
theorem startS (w : World) (lf : Bool) (x : Value) (W : World) (hW : W = ((w.alloc (.cells #[.bool lf, x] 49)).alloc (.cells #[.bool false, .slice none 0 0] 49)).alloc (.cells #[.bool false, .slice none 0 0] 49)) :
    W.cell? ⟨w.heap.size, 0, none⟩ = some (.bool lf) ∧ W.cell? ⟨w.heap.size, 1, none⟩ = some x ∧ Z2 W (w.heap.size + 1) ∧ Z2 W (w.heap.size + 1 + 1) ∧ Below w.heap.size w W := by
  subst hW
  have s1 : (w.alloc (.cells #[.bool lf, x] 49)).heap.size = w.heap.size + 1 := by simp
  have s2 : ((w.alloc (.cells #[.bool lf, x] 49)).alloc (.cells #[.bool false, .slice none 0 0] 49)).heap.size = w.heap.size + 1 + 1 := by simp
  have b2 := ((Below.refl _ (w.alloc (.cells #[.bool lf, x] 49))).alloc (Nat.le_refl _) (.cells #[.bool false, .slice none 0 0] 49)).alloc (by simp) (.cells #[.bool false, .slice none 0 0] 49)
  obtain ⟨p0, p1, _, _⟩ := z2At (w := w) (b := lf) (v := x) rfl
  have hz := Z2.new (w.alloc (.cells #[.bool lf, x] 49))
  have hz2 := Z2.new ((w.alloc (.cells #[.bool lf, x] 49)).alloc (.cells #[.bool false, .slice none 0 0] 49))
  rw [s1] at hz
  rw [s2] at hz2
  exact ⟨(b2.cell (p := ⟨w.heap.size, 0, none⟩) (show w.heap.size < _ by omega)).trans p0, (b2.cell (p := ⟨w.heap.size, 1, none⟩) (show w.heap.size < _ by omega)).trans p1, hz.below ((Below.refl _ _).alloc (Nat.le_refl _) _), hz2, (((Below.refl _ _).alloc (Nat.le_refl _) _).alloc (by simp) _).alloc (by simp <;> omega) _⟩
/-- What holds of the world while Split goes on. -/
structure SpI (w : World) (lf : Bool) (v : Value) (wr : World) : Prop where
  leaf : wr.cell? ⟨w.heap.size, 0, none⟩ = some (.bool lf)
  row : wr.cell? ⟨w.heap.size, 1, none⟩ = some v
  za : Z2 wr (w.heap.size + 1)
  zb : Z2 wr (w.heap.size + 1 + 1)
  below : Below w.heap.size w wr
theorem SpI.step {w wr w' : World} {lf : Bool} {v : Value} (h : SpI w lf v wr) (hb : Below wr.heap.size wr w') : SpI w lf v w' :=
  ⟨(hb.cell (World.block_lt_of_cell? _ _ h.leaf)).trans h.leaf, (hb.cell (World.block_lt_of_cell? _ _ h.row)).trans h.row, h.za.below hb, h.zb.below hb, h.below.trans (hb.mono h.below.size)⟩
theorem stepS2 {w w1 w2 : World} {p0 p1 : Addr} {x0 x1 : Value} {g h : Nat} (H : w1.cell? p0 = some x0 ∧ w1.cell? p1 = some x1 ∧ Z2 w1 g ∧ Z2 w1 h ∧ Below w.heap.size w w1) (hb : Below w1.heap.size w1 w2) :
    w2.cell? p0 = some x0 ∧ w2.cell? p1 = some x1 ∧ Z2 w2 g ∧ Z2 w2 h ∧ Below w.heap.size w w2 := by
  obtain ⟨h0, h1, h2, h3, h4⟩ := H
  exact ⟨(hb.cell (p := p0) (World.block_lt_of_cell? _ _ h0)).trans h0, (hb.cell (p := p1) (World.block_lt_of_cell? _ _ h1)).trans h1, h2.below hb, h3.below hb, h4.trans (hb.mono h4.size)⟩
theorem lastS2 {w w1 : World} {p0 p1 : Addr} {x0 x1 : Value} {g h : Nat} (H : w1.cell? p0 = some x0 ∧ w1.cell? p1 = some x1 ∧ Z2 w1 g ∧ Z2 w1 h ∧ Below w.heap.size w w1) : Below w.heap.size w w1 := H.2.2.2.2
theorem encC_le' (lf : Bool) (l : List Cl) (h : l.length ≤ 100000) : Sl.sum (Sl.shR lf) l ≤ 6579600000 := by
  have h1 : ∀ x : Cl, ((Sl.shR lf).enc x).length ≤ 65794 := by
    intro x
    cases lf
    · exact Nat.le_trans (Sl.encK_len (toK x)) (by decide)
    · exact Sl.encC_len x
  have h2 := Sl.sum_le (Sl.shR lf) 65794 h1 l
  omega
/-- A box of a node, as it is. -/
structure Nb (w : World) (g : Nat) (lf : Bool) (v : Value) : Prop where
  c0 : w.cell? ⟨g, 0, none⟩ = some (.bool lf)
  c1 : w.cell? ⟨g, 1, none⟩ = some v
  f0 : w.frozen? ⟨g, 0, none⟩ = false
  f1 : w.frozen? ⟨g, 1, none⟩ = false
theorem Nb.lt {w : World} {g : Nat} {lf : Bool} {v : Value} (h : Nb w g lf v) : g < w.heap.size := World.block_lt_of_cell? _ _ h.c0
theorem Nb.belowB {w w' : World} {g B : Nat} {lf : Bool} {v : Value} (h : Nb w g lf v) (hb : Below B w w') (hg : g < B) : Nb w' g lf v :=
  ⟨(hb.cell (p := ⟨g, 0, none⟩) hg).trans h.c0, (hb.cell (p := ⟨g, 1, none⟩) hg).trans h.c1, (hb.frozen (p := ⟨g, 0, none⟩) hg).trans h.f0, (hb.frozen (p := ⟨g, 1, none⟩) hg).trans h.f1⟩
theorem Nb.far {w : World} {g b : Nat} {i : Nat} {lf : Bool} {v u : Value} (h : Nb w g lf v) (hb : b ≠ g) : Nb (w.setCell ⟨b, i, none⟩ u) g lf v :=
  ⟨(World.cell?_setCell_far _ _ _ _ hb).trans h.c0, (World.cell?_setCell_far _ _ _ _ hb).trans h.c1, (World.frozen?_setCell _ _ _ _).trans h.f0, (World.frozen?_setCell _ _ _ _).trans h.f1⟩
theorem Nb.put {w : World} {g : Nat} {lf : Bool} {v u : Value} (h : Nb w g lf v) : Nb (w.setCell ⟨g, 1, none⟩ u) g lf u :=
  ⟨(World.cell?_setCell_other _ _ _ _ (by simp)).trans h.c0, World.cell?_setCell_same' _ _ _ (by rw [h.c1]; rfl), (World.frozen?_setCell _ _ _ _).trans h.f0, (World.frozen?_setCell _ _ _ _).trans h.f1⟩
theorem Nb.at {w : World} {g : Nat} {lf : Bool} {v : Value} (hg : w.heap.size = g) : Nb (w.alloc (.cells #[.bool lf, v] 49)) g lf v := by
  obtain ⟨h0, h1, h2, h3⟩ := z2At (b := lf) (v := v) hg
  exact ⟨h0, h1, h2, h3⟩
theorem Z2.nb {w : World} {g : Nat} (h : Z2 w g) : Nb w g false (.slice none 0 0) := ⟨h.z0, h.z1, h.f0, h.f1⟩
theorem Nb.z2 {w : World} {g : Nat} (h : Nb w g false (.slice none 0 0)) : Z2 w g := ⟨h.c0, h.c1, h.f0, h.f1⟩
theorem SpI.far {w wr : World} {b i : Nat} {lf : Bool} {v u : Value} (h : SpI w lf v wr) (hb : w.heap.size + 1 + 1 < b) : SpI w lf v (wr.setCell ⟨b, i, none⟩ u) :=
  ⟨(World.cell?_setCell_far _ _ _ _ (show b ≠ w.heap.size by omega)).trans h.leaf, (World.cell?_setCell_far _ _ _ _ (show b ≠ w.heap.size by omega)).trans h.row, (h.za.nb.far (by omega)).z2, (h.zb.nb.far (by omega)).z2, h.below.setCell (show w.heap.size ≤ b by omega) _⟩
/-- What holds when the two nodes have been made. -/
structure SpJ (w : World) (lf : Bool) (v u9 u10 : Value) (b9 b10 : Nat) (wr : World) : Prop where
  base : SpI w lf v wr
  n9 : Nb wr b9 lf u9
  n10 : Nb wr b10 lf u10
  ne : b9 ≠ b10
  g9 : w.heap.size + 1 + 1 < b9
  g10 : w.heap.size + 1 + 1 < b10
theorem SpJ.step {w wr w' : World} {lf : Bool} {v u9 u10 : Value} {b9 b10 : Nat} (h : SpJ w lf v u9 u10 b9 b10 wr) (hb : Below wr.heap.size wr w') : SpJ w lf v u9 u10 b9 b10 w' :=
  ⟨h.base.step hb, h.n9.belowB hb h.n9.lt, h.n10.belowB hb h.n10.lt, h.ne, h.g9, h.g10⟩
theorem SpJ.belowB {w wr w' : World} {lf : Bool} {v u9 u10 : Value} {b9 b10 B : Nat} (h : SpJ w lf v u9 u10 b9 b10 wr) (hb : Below B wr w') (h1 : w.heap.size + 1 + 1 < B) (h2 : b9 < B) (h3 : b10 < B) : SpJ w lf v u9 u10 b9 b10 w' :=
  ⟨⟨(hb.cell (p := ⟨w.heap.size, 0, none⟩) (show w.heap.size < B by omega)).trans h.base.leaf, (hb.cell (p := ⟨w.heap.size, 1, none⟩) (show w.heap.size < B by omega)).trans h.base.row, (h.base.za.nb.belowB hb (by omega)).z2, (h.base.zb.nb.belowB hb (by omega)).z2, h.base.below.trans (hb.mono (by omega))⟩, h.n9.belowB hb h2, h.n10.belowB hb h3, h.ne, h.g9, h.g10⟩
/-- The end of Split: four stores into the two results' boxes. -/
theorem splitEnd {w W : World} {lf : Bool} {vv v9 v10 : Value} {b9 b10 B9 B10 : Nat} {l9 l10 : List Cl} {n : Rn} (hJ : SpJ w lf vv v9 v10 b9 b10 W) (r9 : RowC W B9 v9 l9) (r10 : RowC W B10 v10 l10) (h9 : w.heap.size + 1 + 1 < B9) (h10 : w.heap.size + 1 + 1 < B10)
    (hA : Sl.rsA n = ⟨lf, l9⟩) (hB : Sl.rsB n = ⟨lf, l10⟩) (c9 : Cap v9) (c10 : Cap v10) (W' : World)
    (hW : W' = (((W.drew.setCell ⟨w.heap.size + 1, 0, none⟩ (.bool lf)).setCell ⟨w.heap.size + 1, 1, none⟩ v9).setCell ⟨w.heap.size + 1 + 1, 0, none⟩ (.bool lf)).setCell ⟨w.heap.size + 1 + 1, 1, none⟩ v10 ∨
      W' = (((W.drew.setCell ⟨w.heap.size + 1 + 1, 0, none⟩ (.bool lf)).setCell ⟨w.heap.size + 1 + 1, 1, none⟩ v10).setCell ⟨w.heap.size + 1, 0, none⟩ (.bool lf)).setCell ⟨w.heap.size + 1, 1, none⟩ v9) :
    SplitR n w (.returned (.tuple #[rnV lf v9, .string (str (Sl.rsK n)), rnV lf v10])) W' := by
  have s9 := r9.below (Below.refl _ W).drew
  have s10 := r10.below (Below.refl _ W).drew
  have hq9 : w.heap.size + 1 < B9 := by omega
  have hq10 : w.heap.size + 1 < B10 := by omega
  have hb := hJ.base.below.drew
  rcases hW with rfl | rfl
  · refine ⟨_, _, rfl, ?_, ?_, (((hb.setCell (show w.heap.size ≤ w.heap.size + 1 by omega) _).setCell (show w.heap.size ≤ w.heap.size + 1 by omega) _).setCell (show w.heap.size ≤ w.heap.size + 1 + 1 by omega) _).setCell (show w.heap.size ≤ w.heap.size + 1 + 1 by omega) _⟩
    · rw [hA]; exact ⟨_, rfl, ((((s9.set hq9 _).set hq9 _).set h9 _).set h9 _).sl, c9⟩
    · rw [hB]; exact ⟨_, rfl, ((((s10.set hq10 _).set hq10 _).set h10 _).set h10 _).sl, c10⟩
  · refine ⟨_, _, rfl, ?_, ?_, (((hb.setCell (show w.heap.size ≤ w.heap.size + 1 + 1 by omega) _).setCell (show w.heap.size ≤ w.heap.size + 1 + 1 by omega) _).setCell (show w.heap.size ≤ w.heap.size + 1 by omega) _).setCell (show w.heap.size ≤ w.heap.size + 1 by omega) _⟩
    · rw [hA]; exact ⟨_, rfl, ((((s9.set h9 _).set h9 _).set hq9 _).set hq9 _).sl, c9⟩
    · rw [hB]; exact ⟨_, rfl, ((((s10.set h10 _).set h10 _).set hq10 _).set hq10 _).sl, c10⟩
theorem SpJ.two {w wr : World} {lf : Bool} {v : Value} (h : SpI w lf v wr) : SpJ w lf v (.slice none 0 0) (.slice none 0 0) wr.heap.size (wr.heap.size + 1) ((wr.alloc (.cells #[.bool lf, .slice none 0 0] 49)).alloc (.cells #[.bool lf, .slice none 0 0] 49)) := by
  have h1 : (wr.alloc (.cells #[.bool lf, .slice none 0 0] 49)).heap.size = wr.heap.size + 1 := by simp
  have hz := h.zb.lt
  exact ⟨(h.step ((Below.refl _ _).alloc (Nat.le_refl _) _)).step ((Below.refl _ _).alloc (Nat.le_refl _) _), (Nb.at rfl).belowB ((Below.refl _ _).alloc (Nat.le_refl _) _) (by omega), Nb.at h1, by omega, hz, by omega⟩
theorem SpJ.swap {w wr : World} {lf : Bool} {v u9 u10 : Value} {b9 b10 : Nat} (h : SpJ w lf v u9 u10 b9 b10 wr) : SpJ w lf v u10 u9 b10 b9 wr := ⟨h.base, h.n10, h.n9, h.ne.symm, h.g10, h.g9⟩
theorem SpJ.put9 {w wr : World} {lf : Bool} {v u9 u10 u : Value} {b9 b10 : Nat} (h : SpJ w lf v u9 u10 b9 b10 wr) : SpJ w lf v u u10 b9 b10 (wr.setCell ⟨b9, 1, none⟩ u) :=
  ⟨h.base.far h.g9, h.n9.put, h.n10.far h.ne, h.ne, h.g9, h.g10⟩
theorem rsplit_big (v : Value) (n : Rn) (w : World) (hv : RnV w v n) (hl : 2 ≤ n.l.length) (hll : n.l.length ≤ 100000) (hok : ∀ x ∈ n.l, okC x ∧ x.val.length ≤ 60000) :
    Calls Try.prog 28 #[v] w (SplitR n w) := by
  obtain ⟨vc, rfl, hc, hcc⟩ := hv
  obtain ⟨lf, L⟩ := n
  simp only at hl hll hok hc
  have hsl := hc
  have hcap0 := hcc
  obtain ⟨a, b, o, c, rfl, h1, hx1⟩ := hc
  obtain rfl : a = some ⟨b, o, none⟩ := by
    rcases h1 with h | h
    · rw [h] at hl; simp at hl
    · exact h
  have hcap : L.length ≤ c := by cases hcc; assumption
  have hcm : c ≤ maxLen := by cases hcc; assumption
  unfold maxLen at hcm
  have HS1 := Lib.hid (fun q (hq : q ≤ L.length) W (hW : Below w.heap.size w W) => refSum_any lf (.slice (some ⟨b, o, none⟩) q c) (L.take q) (by rw [List.length_take]; omega) (fun x hx => hok x (List.mem_of_mem_take hx)) W ((hsl.below hW).takeS q hq))
  have HS2 := Lib.hid (fun q W (hW : Below w.heap.size w W) => refSum_any lf (.slice (some ⟨b, o + q * 4, none⟩) (L.length - q) (c - q)) (L.drop q) (by rw [List.length_drop]; omega) (fun x hx => hok x (List.mem_of_mem_drop hx)) W ((hsl.below hW).dropS q))
  have HSL := Lib.hid hsl
  have HX := Lib.hid hx1
  clear hok h1 hx1 hsl hcap0 hcc
  unfold rnV
  have HST := Lib.hid (startS w lf (.slice (some ⟨b, o, none⟩) L.length c) _ rfl)
  have HI : Hid (SpI w lf (.slice (some ⟨b, o, none⟩) L.length c) (((w.alloc (.cells #[.bool lf, .slice (some ⟨b, o, none⟩) L.length c] 49)).alloc (.cells #[.bool false, .slice none 0 0] 49)).alloc (.cells #[.bool false, .slice none 0 0] 49))) := by
    obtain ⟨k0, k1, k2, k3, k4⟩ := HST.out
    exact ⟨k0, k1, k2, k3, k4⟩
  have i1 := HST.out.2.1
  clear HST
  have hl2 : ¬ (L.length : Int) < 2 := by omega
  have hsum := encC_le' lf L hll
  go_enter Try.func28, Try.ntmps28
  go_wp2
  clear i1
  revert HI
  generalize (((w.alloc (.cells #[.bool lf, .slice (some ⟨b, o, none⟩) L.length c] 49)).alloc (.cells #[.bool false, .slice none 0 0] 49)).alloc (.cells #[.bool false, .slice none 0 0] 49)) = w1
  intro HI
  go_loopg [5, 6, 7] L.length (fun n bs ls i wr => ∃ k : Nat, k + 1 ≤ L.length ∧ n = L.length - k ∧ i = .int .i64 ((k : Int) + 1) ∧ (k = 0 ∧ bs = .int .i64 0 ∧ ls = .int .i64 (-1) ∨ k ≠ 0 ∧ bs = .int .i64 (Sl.st (Sl.shR lf) L k).1 ∧ ls = .int .i64 (Sl.st (Sl.shR lf) L k).2) ∧ Hid (SpI w lf (.slice (some ⟨b, o, none⟩) L.length c) wr))
  case atStart => exact ⟨0, by omega, rfl, rfl, .inl ⟨rfl, rfl, rfl⟩, HI.out⟩
  case round =>
    obtain ⟨k, hk, rfl, rfl, hbl, HJ⟩ := hrel
    have i1 := HJ.out.row
    have i0 := HJ.out.leaf
    by_cases hlt : k + 1 < L.length
    · have hF : Hid (wr.drew.cell? ⟨w.heap.size, 0, none⟩ = some (.bool lf) ∧ wr.drew.cell? ⟨w.heap.size, 1, none⟩ = some (.slice (some ⟨b, o, none⟩) L.length c) ∧ Z2 wr.drew (w.heap.size + 1) ∧ Z2 wr.drew (w.heap.size + 1 + 1) ∧ Below w.heap.size w wr.drew) := by
        have H := HJ.out.step (Below.refl _ _).drew
        exact ⟨H.leaf, H.row, H.za, H.zb, H.below⟩
      have hq0 : (0 : Int) ≤ (k : Int) + 1 := by omega
      have hq1 : (k : Int) + 1 ≤ L.length := by omega
      have hq2 : (k : Int) + 1 ≤ c := by omega
      have hq3 : (L.length : Int) ≤ c := by omega
      have hq4 : ¬ c = k + 1 := by omega
      have hq5 : ((k : Int) + 1).toNat = k + 1 := by omega
      have HA1 := Lib.hid (HS1.out (k + 1) (by omega))
      have HA2 := Lib.hid (HS2.out (k + 1))
      have hab := Sl.sum_cut (Sl.shR lf) L (k + 1)
      have hdn : ((Sl.dif (Sl.shR lf) L (k + 1) : Nat) : Int) = (Sl.sum (Sl.shR lf) (L.take (k + 1)) : Int) - (Sl.sum (Sl.shR lf) (L.drop (k + 1)) : Int) ∨ ((Sl.dif (Sl.shR lf) L (k + 1) : Nat) : Int) = -((Sl.sum (Sl.shR lf) (L.take (k + 1)) : Int) - (Sl.sum (Sl.shR lf) (L.drop (k + 1)) : Int)) := by
        unfold Sl.dif; omega
      have hd0 : (0 : Int) ≤ ((Sl.dif (Sl.shR lf) L (k + 1) : Nat) : Int) := by omega
      have hA : (Sl.sum (Sl.shR lf) (L.take (k + 1)) : Int) ≤ 6579600000 := by omega
      have hB : (Sl.sum (Sl.shR lf) (L.drop (k + 1)) : Int) ≤ 6579600000 := by omega
      have hwr : IntKind.i64.wrap ((Sl.sum (Sl.shR lf) (L.take (k + 1)) : Int) - (Sl.sum (Sl.shR lf) (L.drop (k + 1)) : Int)) = (Sl.sum (Sl.shR lf) (L.take (k + 1)) : Int) - (Sl.sum (Sl.shR lf) (L.drop (k + 1)) : Int) := IntWalk.i64_in _ (by omega)
      have HAB := Lib.hid hdn
      clear hdn
      go_wp2_with fail
      clear i0 i1
      go_region_held3 (fun w' => w'.cell? ⟨w.heap.size, 0, none⟩ = some (.bool lf) ∧ w'.cell? ⟨w.heap.size, 1, none⟩ = some (.slice (some ⟨b, o, none⟩) L.length c) ∧ Z2 w' (w.heap.size + 1) ∧ Z2 w' (w.heap.size + 1 + 1) ∧ Below w.heap.size w w')
        ((first | assumption | exact stepS2 ‹_› hb | exact hF.out))
        (first
        | (go_at_call 60; with_reducible refine (HA2.out _ (lastS2 (by assumption))).mono ?_; rintro e w2 ⟨rfl, hb⟩)
        | (go_at_call 60; with_reducible refine (HA1.out _ (lastS2 (by assumption))).mono ?_; rintro e w2 ⟨rfl, hb⟩))
      rename_i hS
      have HK : Hid (SpI w lf (.slice (some ⟨b, o, none⟩) L.length c) _) := ⟨hS.1, hS.2.1, hS.2.2.1, hS.2.2.2.1, hS.2.2.2.2⟩
      clear hS
      have HL0 := fun (h : k ≠ 0) (h' : Sl.dif (Sl.shR lf) L (k + 1) < (Sl.st (Sl.shR lf) L k).2) => Lib.hid (Sl.st_less (Sl.shR lf) L k h h')
      have HL1 := fun (h : k ≠ 0) (h' : ¬ Sl.dif (Sl.shR lf) L (k + 1) < (Sl.st (Sl.shR lf) L k).2) => Lib.hid (Sl.st_keep (Sl.shR lf) L k h h')
      have HF1 := Lib.hid (Sl.st_first (Sl.shR lf) L)
      clear hab
      by_cases hng : (Sl.sum (Sl.shR lf) (L.take (k + 1)) : Int) - (Sl.sum (Sl.shR lf) (L.drop (k + 1)) : Int) < 0
      all_goals rcases hbl with ⟨h0, rfl, rfl⟩ | ⟨h0, rfl, rfl⟩
      all_goals by_cases h2 : Sl.dif (Sl.shR lf) L (k + 1) < (Sl.st (Sl.shR lf) L k).2
      all_goals
        have hdn := HAB.out
        have hll0 : ¬ ((Sl.st (Sl.shR lf) L k).2 : Int) < 0 := by omega
        try (have h3 : -((Sl.sum (Sl.shR lf) (L.take (k + 1)) : Int) - (Sl.sum (Sl.shR lf) (L.drop (k + 1)) : Int)) < ((Sl.st (Sl.shR lf) L k).2 : Nat) := by omega)
        try (have h3 : ¬ -((Sl.sum (Sl.shR lf) (L.take (k + 1)) : Int) - (Sl.sum (Sl.shR lf) (L.drop (k + 1)) : Int)) < ((Sl.st (Sl.shR lf) L k).2 : Nat) := by omega)
        try (have h4 : (Sl.sum (Sl.shR lf) (L.take (k + 1)) : Int) - (Sl.sum (Sl.shR lf) (L.drop (k + 1)) : Int) < ((Sl.st (Sl.shR lf) L k).2 : Nat) := by omega)
        try (have h4 : ¬ (Sl.sum (Sl.shR lf) (L.take (k + 1)) : Int) - (Sl.sum (Sl.shR lf) (L.drop (k + 1)) : Int) < ((Sl.st (Sl.shR lf) L k).2 : Nat) := by omega)
        clear hdn
        have H0 := Lib.hid h0
        clear h0
        go_wp2
        go_roundg (L.length - (k + 1))
        case measure => omega
        case rel =>
          have hdn := HAB.out
          have h0 := H0.out
          refine ⟨k + 1, by omega, rfl, by go_num, .inr ⟨Nat.succ_ne_zero k, ?_, ?_⟩, HK⟩
          · first
            | (rw [show Sl.st (Sl.shR lf) L (k + 1) = (k + 1, Sl.dif (Sl.shR lf) L (k + 1)) by (subst h0); exact HF1.out]; go_num)
            | (rw [(HL0 h0 h2).out]; go_num)
            | (rw [(HL1 h0 h2).out])
          · first
            | (rw [show Sl.st (Sl.shR lf) L (k + 1) = (k + 1, Sl.dif (Sl.shR lf) L (k + 1)) by (subst h0); exact HF1.out]; show Value.int _ _ = Value.int _ _; congr 1; show _ = ((Sl.dif (Sl.shR lf) L (k + 1) : Nat) : Int); omega)
            | (rw [(HL0 h0 h2).out]; show Value.int _ _ = Value.int _ _; congr 1; show _ = ((Sl.dif (Sl.shR lf) L (k + 1) : Nat) : Int); omega)
            | (rw [(HL1 h0 h2).out])
    · have hkk : k = L.length - 1 := by omega
      rcases hbl with ⟨h0, _, _⟩ | ⟨h0, rfl, rfl⟩
      · omega
      obtain ⟨q, hq⟩ : ∃ q, Sl.rsQ ⟨lf, L⟩ = q := ⟨_, rfl⟩
      have HCA : Hid ((Sl.st (Sl.shR lf) L k).1 = q) := by
        show _ = _
        rw [← hq, hkk]; exact (Sl.cutAt_st (Sl.shR lf) L).symm
      have hqb := Sl.cutAt_pos (Sl.shR lf) L hl
      have hq' : Sl.cutAt (Sl.shR lf) L = q := hq
      rw [hq'] at hqb
      have HQ := Lib.hid hq
      clear hq hq' hkk hk HI hsum HS1 HS2
      rw [HCA.out]
      go_upto_region 13 with fail
      go_cut [9, 10] from 55 to 60 (fun p9 p10 wx => ∃ b9 b10 : Nat, p9 = .pointer (some ⟨b9, 0, none⟩) ∧ p10 = .pointer (some ⟨b10, 0, none⟩) ∧ Hid (SpJ w lf (.slice (some ⟨b, o, none⟩) L.length c) (.slice none 0 0) (.slice none 0 0) b9 b10 wx))
      case first =>
        have hgl : w.heap.size < wr.heap.size := World.block_lt_of_cell? _ _ HJ.out.leaf
        have i0a := fun o1 => (HJ.out.step (((Below.refl _ wr).drew).alloc (Nat.le_refl _) o1)).leaf
        have i0b := fun o1 o2 => (HJ.out.step ((((Below.refl _ wr).drew).alloc (Nat.le_refl _) o1).alloc (by show _ ≤ _; simp) o2)).leaf
        go_region_with (fail)
        all_goals (go_wp2_with fail; go_meet; first | exact ⟨_, _, rfl, rfl, Lib.hid ((SpJ.two HJ.out).step (Below.refl _ _).drew)⟩ | exact ⟨_, _, rfl, rfl, Lib.hid ((SpJ.two HJ.out).step (Below.refl _ _).drew).swap⟩)
      case rest =>
        obtain ⟨b9, b10, rfl, rfl, HC⟩ := hcut
        have hq0 : (0 : Int) ≤ (q : Int) := by omega
        have hq1 : (q : Int) ≤ L.length := by omega
        have hq2 : (q : Int) ≤ c := by omega
        have hq3 : (L.length : Int) ≤ c := by omega
        have hq4 : ¬ c = q := by omega
        clear HCA HJ
        have t1 := HC.out.n9.c1
        have t2 := HC.out.base.row
        go_wp2_with fail
        go_still_tail 6, (by kernel_rfl)
        change wpList _ _ _ _ _ wc.drew
        have HD := HC.out.step (Below.refl _ _).drew
        have HSW := HSL.out.below HD.base.below
        clear t1 t2 HC
        generalize wc.drew = W1 at HD HSW ⊢
        have hcap1 : Cap (.slice (some ⟨b, o, none⟩) q c) := ⟨_, _, _, by omega, by unfold maxLen; omega, fun h => by cases h⟩
        have hcap2 : Cap (.slice (some ⟨b, o + q * 4, none⟩) (L.length - q) (c - q)) := ⟨_, _, _, by omega, by unfold maxLen; omega, fun h => by cases h⟩
        obtain ⟨v9, w2, hrun9, hr9, _, hb9⟩ := appC W1 W1.heap.size (.slice none 0 0) (.slice (some ⟨b, o, none⟩) q c) [] (L.take q) 40 (Nat.le_refl _) (World.ownsRow_nil _ _ _ _) (HSW.takeS q (by omega)) hcap1 (by decide) (by rw [List.length_take]; omega)
        rw [List.nil_append] at hr9
        obtain ⟨a9, m9, c9, h91, h92, h93⟩ := hr9.cap
        have hS9 := HD.step hb9
        have m1 := hS9.n9.c1
        have m2 := hS9.n9.f1
        have HJ9 := Lib.hid (hS9.put9 (u := .slice a9 m9 c9))
        have HR9 := Lib.hid (hr9.set (a := ⟨b9, 1, none⟩) HD.n9.lt (.slice a9 m9 c9))
        have HB9 := Lib.hid (show b10 < W1.heap.size ∧ w.heap.size + 1 + 1 < W1.heap.size from ⟨HD.n10.lt, HD.base.zb.lt⟩)
        clear hr9 hS9 HSW hb9 HD
        go_wp2_with (at_builtin; refine Lib.wpList_append_run _ rfl _ _ _ _ rfl _ _ rfl rfl _ _ hrun9 ?_)
        go_wp2_with fail
        clear m1 m2 hrun9 hcap1
        generalize (w2.setCell ⟨b9, 1, none⟩ (.slice a9 m9 c9)) = W2 at HJ9 HR9 ⊢
        have t1 := HJ9.out.n10.c1
        have t2 := HJ9.out.base.row
        go_still_tail 6, (by kernel_rfl)
        change wpList _ _ _ _ _ W2.drew
        have HD := HJ9.out.step (Below.refl _ _).drew
        have HSW := HSL.out.below HD.base.below
        have hr9 := HR9.out.below (Below.refl _ W2).drew
        clear t1 t2 HJ9 HR9
        generalize W2.drew = W3 at HD HSW hr9 ⊢
        obtain ⟨v10, w4, hrun10, hr10, _, hb10⟩ := appC W3 W3.heap.size (.slice none 0 0) (.slice (some ⟨b, o + q * 4, none⟩) (L.length - q) (c - q)) [] (L.drop q) 40 (Nat.le_refl _) (World.ownsRow_nil _ _ _ _) (HSW.dropS q) hcap2 (by decide) (by rw [List.length_drop]; omega)
        rw [List.nil_append] at hr10
        have hdl : (L.drop q).length = L.length - q := List.length_drop ..
        obtain ⟨g10, c10, hv10, hg10, _⟩ := World.ownsRow.form hr10 (by rw [hdl]; omega)
        rw [hdl] at hv10
        subst hv10
        have hcp10 := hr10.cap
        have hS10 := HD.step hb10
        have m1 := hS10.n10.c1
        have m2 := hS10.n10.f1
        have HJ10 := Lib.hid (hS10.swap.put9 (u := .slice (some ⟨g10, 0, none⟩) (L.length - q) c10)).swap
        have HR10 := Lib.hid (hr10.set (a := ⟨b10, 1, none⟩) HD.n10.lt (.slice (some ⟨g10, 0, none⟩) (L.length - q) c10))
        have HR9 := Lib.hid ((hr9.below hb10).set (a := ⟨b10, 1, none⟩) HB9.out.1 (.slice (some ⟨g10, 0, none⟩) (L.length - q) c10))
        have HLO := Lib.hid hr9.lo
        have HBB := Lib.hid (show w.heap.size + 1 + 1 < W3.heap.size ∧ b9 < W3.heap.size ∧ b10 < W3.heap.size from ⟨HD.base.zb.lt, HD.n9.lt, HD.n10.lt⟩)
        clear hr9 hr10 hS10 HSW hb10 HD
        go_upto_region 16 with (at_builtin; refine Lib.wpList_append_run _ rfl _ _ _ _ rfl _ _ rfl rfl _ _ hrun10 ?_)
        clear m1 m2 hrun10 hcap2
        have hne : L.drop q ≠ [] := fun h => by rw [h] at hdl; simp at hdl; omega
        generalize hM : L.drop q = M at *
        obtain ⟨y, t, rfl⟩ : ∃ y t, M = y :: t := by
          cases M with
          | nil => exact absurd rfl hne
          | cons y t => exact ⟨y, t, rfl⟩
        have HM := Lib.hid hM
        have HYL := Lib.hid hdl
        clear hM hne hdl
        generalize (w4.setCell ⟨b10, 1, none⟩ (.slice (some ⟨g10, 0, none⟩) (L.length - q) c10)) = W5 at HJ10 HR10 HR9 ⊢
        have hk0 : W5.cell? ⟨g10, 0, none⟩ = some (.string (str y.key)) := by
          have hr := HR10.out
          rw [← HYL.out] at hr
          have := World.ownsRow.cellAt hr 0 (by simp)
          rw [this]; rfl
        have hf0 : W5.frozen? ⟨g10, 0, none⟩ = false := by
          have hr := HR10.out
          rw [← HYL.out] at hr
          exact World.ownsRow.frozenAt hr 0
        have hl0 : (0 : Int) < ((L.length - q : Nat) : Int) := by omega
        have hl1 : (0 : Int) < (L.length : Int) - (q : Int) := by omega
        have hl3 : q < L.length := by omega
        have hyl : (y :: t).length = L.length - q := HYL.out
        have n1 := HJ10.out.n10.c1
        have n2 := HJ10.out.base.leaf
        have hgg : W3.heap.size ≤ g10 := hg10
        cases lf with
        | true =>
          go_wp2_with fail
          have hA : Sl.rsA ⟨true, L⟩ = ⟨true, L.take q⟩ := by unfold Sl.rsA; rw [HQ.out]
          have hB : Sl.rsB ⟨true, L⟩ = ⟨true, y :: t⟩ := by unfold Sl.rsB; rw [HQ.out, HM.out]; rfl
          have HJF := HJ10
          have HF9 := HR9
          have HF10 := HR10
          have HE := Lib.hid (fun W' hW' => splitEnd (n := ⟨true, L⟩) HJF.out HF9.out HF10.out HB9.out.2 HBB.out.1 hA hB ⟨_, _, _, h91, h92, h93⟩ hcp10 W' hW')
          have hKK : Sl.rsK ⟨true, L⟩ = y.key := by unfold Sl.rsK; rw [HQ.out, HM.out]; rfl
          rw [hKK] at HE
          have f1 := HJF.out.n9.c0
          have f2 := HJF.out.n9.c1
          have f3 := HJF.out.n10.c0
          have f4 := HJF.out.n10.c1
          have f5 := HJF.out.base.za.z0
          have f6 := HJF.out.base.za.z1
          have f7 := HJF.out.base.za.f0
          have f8 := HJF.out.base.za.f1
          have f9 := HJF.out.base.zb.z0
          have f10 := HJF.out.base.zb.z1
          have f11 := HJF.out.base.zb.f0
          have f12 := HJF.out.base.zb.f1
          have e1 : ¬ w.heap.size + 1 = b9 := by have := HJF.out.g9; omega
          have e2 : ¬ w.heap.size + 1 = b10 := by have := HJF.out.g10; omega
          have e3 : ¬ w.heap.size + 1 + 1 = b9 := by have := HJF.out.g9; omega
          have e4 : ¬ w.heap.size + 1 + 1 = b10 := by have := HJF.out.g10; omega
          have e5 : ¬ b9 = w.heap.size + 1 := by have := HJF.out.g9; omega
          have e6 : ¬ b10 = w.heap.size + 1 := by have := HJF.out.g10; omega
          have e7 : ¬ b9 = w.heap.size + 1 + 1 := by have := HJF.out.g9; omega
          have e8 : ¬ b10 = w.heap.size + 1 + 1 := by have := HJF.out.g10; omega
          clear hk0 hf0 n1 n2 hl0 hl1 hl3 hyl
          unfold rnV at HE
          go_region_with (fail)
          all_goals
            go_wp2
            refine bodyPost_ret_by (v := .tuple #[.agg #[.bool true, .slice a9 m9 c9], .string (str y.key), .agg #[.bool true, .slice (some ⟨g10, 0, none⟩) (L.length - q) c10]]) ?_ rfl (HE.out _ ?_)
            · simp [results, Try.results28, go_sem, f5, f6, f9, f10]
            · first | exact .inl rfl | exact .inr rfl
        | false =>
          go_wp2_with fail
          have hA : Sl.rsA ⟨false, L⟩ = ⟨false, L.take q⟩ := by unfold Sl.rsA; rw [HQ.out]
          have hB : Sl.rsB ⟨false, L⟩ = ⟨false, Sl.setC [] (y :: t)⟩ := by unfold Sl.rsB; rw [HQ.out, HM.out]; rfl
          have hbl : Below W3.heap.size W5 (W5.setCell ⟨g10, 0, none⟩ (.string ⟨#[]⟩)) := (Below.refl _ _).setCell hgg _
          have HJF := Lib.hid (HJ10.out.belowB hbl HBB.out.1 HBB.out.2.1 HBB.out.2.2)
          have HF9 := Lib.hid (HR9.out.keep HLO.out hbl)
          have HF10 : Hid (RowC (W5.setCell ⟨g10, 0, none⟩ (.string ⟨#[]⟩)) W3.heap.size (.slice (some ⟨g10, 0, none⟩) (L.length - q) c10) (Sl.setC [] (y :: t))) := by
            have hr := HR10.out
            rw [← HYL.out] at hr ⊢
            exact (World.ownsRow.stored hr 0 (.string ⟨#[]⟩)).1
          clear hbl
          generalize (W5.setCell ⟨g10, 0, none⟩ (.string ⟨#[]⟩)) = W6 at HJF HF9 HF10 ⊢
          have HE := Lib.hid (fun W' hW' => splitEnd (n := ⟨false, L⟩) HJF.out HF9.out HF10.out HB9.out.2 HBB.out.1 hA hB ⟨_, _, _, h91, h92, h93⟩ hcp10 W' hW')
          have hKK : Sl.rsK ⟨false, L⟩ = y.key := by unfold Sl.rsK; rw [HQ.out, HM.out]; rfl
          rw [hKK] at HE
          have f1 := HJF.out.n9.c0
          have f2 := HJF.out.n9.c1
          have f3 := HJF.out.n10.c0
          have f4 := HJF.out.n10.c1
          have f5 := HJF.out.base.za.z0
          have f6 := HJF.out.base.za.z1
          have f7 := HJF.out.base.za.f0
          have f8 := HJF.out.base.za.f1
          have f9 := HJF.out.base.zb.z0
          have f10 := HJF.out.base.zb.z1
          have f11 := HJF.out.base.zb.f0
          have f12 := HJF.out.base.zb.f1
          have e1 : ¬ w.heap.size + 1 = b9 := by have := HJF.out.g9; omega
          have e2 : ¬ w.heap.size + 1 = b10 := by have := HJF.out.g10; omega
          have e3 : ¬ w.heap.size + 1 + 1 = b9 := by have := HJF.out.g9; omega
          have e4 : ¬ w.heap.size + 1 + 1 = b10 := by have := HJF.out.g10; omega
          have e5 : ¬ b9 = w.heap.size + 1 := by have := HJF.out.g9; omega
          have e6 : ¬ b10 = w.heap.size + 1 := by have := HJF.out.g10; omega
          have e7 : ¬ b9 = w.heap.size + 1 + 1 := by have := HJF.out.g9; omega
          have e8 : ¬ b10 = w.heap.size + 1 + 1 := by have := HJF.out.g10; omega
          clear hk0 hf0 n1 n2 hl0 hl1 hl3 hyl
          unfold rnV at HE
          go_region_with (fail)
          all_goals
            go_wp2
            refine bodyPost_ret_by (v := .tuple #[.agg #[.bool false, .slice a9 m9 c9], .string (str y.key), .agg #[.bool false, .slice (some ⟨g10, 0, none⟩) (L.length - q) c10]]) ?_ rfl (HE.out _ ?_)
            · simp [results, Try.results28, go_sem, f5, f6, f9, f10]
            · first | exact .inl rfl | exact .inr rfl
end Go.Proofs.Ytilccpklbaglpaa
