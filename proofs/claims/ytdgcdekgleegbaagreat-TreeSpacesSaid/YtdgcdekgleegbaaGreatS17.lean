/- Texts of one seat, merged. -/
import Derived.Test.YtdgcdekgleegbaaGreatS16
import Derived.Test.YtdgcdekgleegbaaGreatS03
import Derived.Test.YtdgcdekgleegbaaGreatS04
import Derived.StillTailTactics
import Derived.Deep.DeepCutAuto
import Derived.Deep.RegionWith
import Derived.Test.YtdgcdekgleegbaaGreatS14
import Derived.Test.YtdgcdekgleegbaaGreatS15
import Derived.ProofKit
import Derived.OpenShut
import Derived.ShutString
import Derived.ChangeOld
import Derived.Carry
import Derived.Deep.Slices
set_option maxRecDepth 100000
set_option maxHeartbeats 4000000
set_option linter.unusedVariables false
/- The contract of the document's own Split. -/
namespace Go.Proofs.YtdgcdekgleegbaaGreat.Sl
def rsQ (n : Rn) : Nat := cutAt (shR n.leaf) n.l
def rsA (n : Rn) : Rn := ⟨n.leaf, n.l.take (rsQ n)⟩
def rsB (n : Rn) : Rn := ⟨n.leaf, keyR n.leaf [] (n.l.drop (rsQ n))⟩
def rsK (n : Rn) : List UInt8 := fkey (shR n.leaf) (n.l.drop (rsQ n))
theorem rsQ_small (n : Rn) (h : n.l.length < 2) : rsQ n = n.l.length := by unfold rsQ cutAt; rw [if_pos h]
end Go.Proofs.YtdgcdekgleegbaaGreat.Sl
namespace Go.Proofs.YtdgcdekgleegbaaGreat
open Go.RowKit
open Sl (Cl Kd Nd Rn)
inductive SplitR (n : Rn) (w : World) (e : Ending) (w' : World) : Prop
  | mk (u v : Value) (he : e = .returned (.tuple #[u, .string (str (Sl.rsK n)), v])) (hu : RnV w' u (Sl.rsA n)) (hv : RnV w' v (Sl.rsB n)) (hb : Below w.heap.size w w')
theorem startS (w : World) (lf : Bool) (x : Value) (W : World) (hW : W = ((w.alloc (.cells #[.bool lf, x] 97)).alloc (.cells #[.bool false, .slice none 0 0] 97)).alloc (.cells #[.bool false, .slice none 0 0] 97)) :
    W.cell? ⟨w.heap.size, 0, none⟩ = some (.bool lf) ∧ W.cell? ⟨w.heap.size, 1, none⟩ = some x ∧ Z2 W (w.heap.size + 1) ∧ Z2 W (w.heap.size + 1 + 1) ∧ Below w.heap.size w W := by
  subst hW
  have s1 : (w.alloc (.cells #[.bool lf, x] 97)).heap.size = w.heap.size + 1 := by simp
  have s2 : ((w.alloc (.cells #[.bool lf, x] 97)).alloc (.cells #[.bool false, .slice none 0 0] 97)).heap.size = w.heap.size + 1 + 1 := by simp
  have b2 := ((Below.refl _ (w.alloc (.cells #[.bool lf, x] 97))).alloc (Nat.le_refl _) (.cells #[.bool false, .slice none 0 0] 97)).alloc (by simp) (.cells #[.bool false, .slice none 0 0] 97)
  obtain ⟨p0, p1, _, _⟩ := z2At (w := w) (b := lf) (v := x) rfl
  have hz := Z2.new (w.alloc (.cells #[.bool lf, x] 97))
  have hz2 := Z2.new ((w.alloc (.cells #[.bool lf, x] 97)).alloc (.cells #[.bool false, .slice none 0 0] 97))
  rw [s1] at hz
  rw [s2] at hz2
  exact ⟨(b2.cell (p := ⟨w.heap.size, 0, none⟩) (show w.heap.size < _ by omega)).trans p0, (b2.cell (p := ⟨w.heap.size, 1, none⟩) (show w.heap.size < _ by omega)).trans p1, hz.below ((Below.refl _ _).alloc (Nat.le_refl _) _), hz2, (((Below.refl _ _).alloc (Nat.le_refl _) _).alloc (by simp) _).alloc (by simp <;> omega) _⟩
/-- What holds of the world while Split goes on. -/
structure SpI (w : World) (lf : Bool) (v : Value) (wr : World) : Prop where
  leaf : wr.cell? ⟨w.heap.size, 0, none⟩ = some (.bool lf)
  row : wr.cell? ⟨w.heap.size, 1, none⟩ = some v
  za : Z2 wr (w.heap.size + 1)
  zb : Z2 wr (w.heap.size + 1 + 1)
  below : Below w.heap.size w wr
theorem SpI.step {w wr w' : World} {lf : Bool} {v : Value} (h : SpI w lf v wr) (hb : Below wr.heap.size wr w') : SpI w lf v w' :=
  ⟨(hb.cell (World.block_lt_of_cell? _ _ h.leaf)).trans h.leaf, (hb.cell (World.block_lt_of_cell? _ _ h.row)).trans h.row, h.za.below hb, h.zb.below hb, h.below.trans (hb.mono h.below.size)⟩
theorem stepS2 {w w1 w2 : World} {p0 p1 : Addr} {x0 x1 : Value} {g h : Nat} (H : w1.cell? p0 = some x0 ∧ w1.cell? p1 = some x1 ∧ Z2 w1 g ∧ Z2 w1 h ∧ Below w.heap.size w w1) (hb : Below w1.heap.size w1 w2) :
    w2.cell? p0 = some x0 ∧ w2.cell? p1 = some x1 ∧ Z2 w2 g ∧ Z2 w2 h ∧ Below w.heap.size w w2 := by
  obtain ⟨h0, h1, h2, h3, h4⟩ := H
  exact ⟨(hb.cell (p := p0) (World.block_lt_of_cell? _ _ h0)).trans h0, (hb.cell (p := p1) (World.block_lt_of_cell? _ _ h1)).trans h1, h2.below hb, h3.below hb, h4.trans (hb.mono h4.size)⟩
theorem lastS2 {w w1 : World} {p0 p1 : Addr} {x0 x1 : Value} {g h : Nat} (H : w1.cell? p0 = some x0 ∧ w1.cell? p1 = some x1 ∧ Z2 w1 g ∧ Z2 w1 h ∧ Below w.heap.size w w1) : Below w.heap.size w w1 := H.2.2.2.2
theorem encC_le' (lf : Bool) (l : List Cl) (h : l.length ≤ 100000) : Sl.sum (Sl.shR lf) l ≤ 6579600000 := by
  have h1 : ∀ x : Cl, ((Sl.shR lf).enc x).length ≤ 65794 := by
    intro x
    cases lf
    · exact Nat.le_trans (Sl.encK_len (toK x)) (by decide)
    · exact Sl.encC_len x
  have h2 := Sl.sum_le (Sl.shR lf) 65794 h1 l
  omega
/-- A box of a node, as it is. -/
structure Nb (w : World) (g : Nat) (lf : Bool) (v : Value) : Prop where
  c0 : w.cell? ⟨g, 0, none⟩ = some (.bool lf)
  c1 : w.cell? ⟨g, 1, none⟩ = some v
  f0 : w.frozen? ⟨g, 0, none⟩ = false
  f1 : w.frozen? ⟨g, 1, none⟩ = false
theorem Nb.lt {w : World} {g : Nat} {lf : Bool} {v : Value} (h : Nb w g lf v) : g < w.heap.size := World.block_lt_of_cell? _ _ h.c0
theorem Nb.belowB {w w' : World} {g B : Nat} {lf : Bool} {v : Value} (h : Nb w g lf v) (hb : Below B w w') (hg : g < B) : Nb w' g lf v :=
  ⟨(hb.cell (p := ⟨g, 0, none⟩) hg).trans h.c0, (hb.cell (p := ⟨g, 1, none⟩) hg).trans h.c1, (hb.frozen (p := ⟨g, 0, none⟩) hg).trans h.f0, (hb.frozen (p := ⟨g, 1, none⟩) hg).trans h.f1⟩
theorem Nb.far {w : World} {g b : Nat} {i : Nat} {lf : Bool} {v u : Value} (h : Nb w g lf v) (hb : b ≠ g) : Nb (w.setCell ⟨b, i, none⟩ u) g lf v :=
  ⟨(World.cell?_setCell_far _ _ _ _ hb).trans h.c0, (World.cell?_setCell_far _ _ _ _ hb).trans h.c1, (World.frozen?_setCell _ _ _ _).trans h.f0, (World.frozen?_setCell _ _ _ _).trans h.f1⟩
theorem Nb.put {w : World} {g : Nat} {lf : Bool} {v u : Value} (h : Nb w g lf v) : Nb (w.setCell ⟨g, 1, none⟩ u) g lf u :=
  ⟨(World.cell?_setCell_other _ _ _ _ (by simp)).trans h.c0, World.cell?_setCell_same' _ _ _ (by rw [h.c1]; rfl), (World.frozen?_setCell _ _ _ _).trans h.f0, (World.frozen?_setCell _ _ _ _).trans h.f1⟩
theorem Nb.at {w : World} {g : Nat} {lf : Bool} {v : Value} (hg : w.heap.size = g) : Nb (w.alloc (.cells #[.bool lf, v] 97)) g lf v := by
  obtain ⟨h0, h1, h2, h3⟩ := z2At (b := lf) (v := v) hg
  exact ⟨h0, h1, h2, h3⟩
theorem Z2.nb {w : World} {g : Nat} (h : Z2 w g) : Nb w g false (.slice none 0 0) := ⟨h.z0, h.z1, h.f0, h.f1⟩
theorem Nb.z2 {w : World} {g : Nat} (h : Nb w g false (.slice none 0 0)) : Z2 w g := ⟨h.c0, h.c1, h.f0, h.f1⟩
theorem SpI.far {w wr : World} {b i : Nat} {lf : Bool} {v u : Value} (h : SpI w lf v wr) (hb : w.heap.size + 1 + 1 < b) : SpI w lf v (wr.setCell ⟨b, i, none⟩ u) :=
  ⟨(World.cell?_setCell_far _ _ _ _ (show b ≠ w.heap.size by omega)).trans h.leaf, (World.cell?_setCell_far _ _ _ _ (show b ≠ w.heap.size by omega)).trans h.row, (h.za.nb.far (by omega)).z2, (h.zb.nb.far (by omega)).z2, h.below.setCell (show w.heap.size ≤ b by omega) _⟩
/-- What holds when the two nodes have been made. -/
structure SpJ (w : World) (lf : Bool) (v u9 u10 : Value) (b9 b10 : Nat) (wr : World) : Prop where
  base : SpI w lf v wr
  n9 : Nb wr b9 lf u9
  n10 : Nb wr b10 lf u10
  ne : b9 ≠ b10
  g9 : w.heap.size + 1 + 1 < b9
  g10 : w.heap.size + 1 + 1 < b10
theorem SpJ.step {w wr w' : World} {lf : Bool} {v u9 u10 : Value} {b9 b10 : Nat} (h : SpJ w lf v u9 u10 b9 b10 wr) (hb : Below wr.heap.size wr w') : SpJ w lf v u9 u10 b9 b10 w' :=
  ⟨h.base.step hb, h.n9.belowB hb h.n9.lt, h.n10.belowB hb h.n10.lt, h.ne, h.g9, h.g10⟩
theorem SpJ.belowB {w wr w' : World} {lf : Bool} {v u9 u10 : Value} {b9 b10 B : Nat} (h : SpJ w lf v u9 u10 b9 b10 wr) (hb : Below B wr w') (h1 : w.heap.size + 1 + 1 < B) (h2 : b9 < B) (h3 : b10 < B) : SpJ w lf v u9 u10 b9 b10 w' :=
  ⟨⟨(hb.cell (p := ⟨w.heap.size, 0, none⟩) (show w.heap.size < B by omega)).trans h.base.leaf, (hb.cell (p := ⟨w.heap.size, 1, none⟩) (show w.heap.size < B by omega)).trans h.base.row, (h.base.za.nb.belowB hb (by omega)).z2, (h.base.zb.nb.belowB hb (by omega)).z2, h.base.below.trans (hb.mono (by omega))⟩, h.n9.belowB hb h2, h.n10.belowB hb h3, h.ne, h.g9, h.g10⟩
/-- The end of Split: four stores into the two results' boxes. -/
theorem splitEnd {w W : World} {lf : Bool} {vv v9 v10 : Value} {b9 b10 B9 B10 : Nat} {l9 l10 : List Cl} {n : Rn} (hJ : SpJ w lf vv v9 v10 b9 b10 W) (r9 : RowC W B9 v9 l9) (r10 : RowC W B10 v10 l10) (h9 : w.heap.size + 1 + 1 < B9) (h10 : w.heap.size + 1 + 1 < B10)
    (hA : Sl.rsA n = ⟨lf, l9⟩) (hB : Sl.rsB n = ⟨lf, l10⟩) (c9 : Cap v9) (c10 : Cap v10) (W' : World)
    (hW : W' = (((W.drew.setCell ⟨w.heap.size + 1, 0, none⟩ (.bool lf)).setCell ⟨w.heap.size + 1, 1, none⟩ v9).setCell ⟨w.heap.size + 1 + 1, 0, none⟩ (.bool lf)).setCell ⟨w.heap.size + 1 + 1, 1, none⟩ v10 ∨
      W' = (((W.drew.setCell ⟨w.heap.size + 1 + 1, 0, none⟩ (.bool lf)).setCell ⟨w.heap.size + 1 + 1, 1, none⟩ v10).setCell ⟨w.heap.size + 1, 0, none⟩ (.bool lf)).setCell ⟨w.heap.size + 1, 1, none⟩ v9) :
    SplitR n w (.returned (.tuple #[rnV lf v9, .string (str (Sl.rsK n)), rnV lf v10])) W' := by
  have s9 := r9.below (Below.refl _ W).drew
  have s10 := r10.below (Below.refl _ W).drew
  have hq9 : w.heap.size + 1 < B9 := by omega
  have hq10 : w.heap.size + 1 < B10 := by omega
  have hb := hJ.base.below.drew
  rcases hW with rfl | rfl
  · refine ⟨_, _, rfl, ?_, ?_, (((hb.setCell (show w.heap.size ≤ w.heap.size + 1 by omega) _).setCell (show w.heap.size ≤ w.heap.size + 1 by omega) _).setCell (show w.heap.size ≤ w.heap.size + 1 + 1 by omega) _).setCell (show w.heap.size ≤ w.heap.size + 1 + 1 by omega) _⟩
    · rw [hA]; exact ⟨_, rfl, ((((s9.set hq9 _).set hq9 _).set h9 _).set h9 _).sl, c9⟩
    · rw [hB]; exact ⟨_, rfl, ((((s10.set hq10 _).set hq10 _).set h10 _).set h10 _).sl, c10⟩
  · refine ⟨_, _, rfl, ?_, ?_, (((hb.setCell (show w.heap.size ≤ w.heap.size + 1 + 1 by omega) _).setCell (show w.heap.size ≤ w.heap.size + 1 + 1 by omega) _).setCell (show w.heap.size ≤ w.heap.size + 1 by omega) _).setCell (show w.heap.size ≤ w.heap.size + 1 by omega) _⟩
    · rw [hA]; exact ⟨_, rfl, ((((s9.set h9 _).set h9 _).set hq9 _).set hq9 _).sl, c9⟩
    · rw [hB]; exact ⟨_, rfl, ((((s10.set h10 _).set h10 _).set hq10 _).set hq10 _).sl, c10⟩
theorem SpJ.two {w wr : World} {lf : Bool} {v : Value} (h : SpI w lf v wr) : SpJ w lf v (.slice none 0 0) (.slice none 0 0) wr.heap.size (wr.heap.size + 1) ((wr.alloc (.cells #[.bool lf, .slice none 0 0] 97)).alloc (.cells #[.bool lf, .slice none 0 0] 97)) := by
  have h1 : (wr.alloc (.cells #[.bool lf, .slice none 0 0] 97)).heap.size = wr.heap.size + 1 := by simp
  have hz := h.zb.lt
  exact ⟨(h.step ((Below.refl _ _).alloc (Nat.le_refl _) _)).step ((Below.refl _ _).alloc (Nat.le_refl _) _), (Nb.at rfl).belowB ((Below.refl _ _).alloc (Nat.le_refl _) _) (by omega), Nb.at h1, by omega, hz, by omega⟩
theorem SpJ.swap {w wr : World} {lf : Bool} {v u9 u10 : Value} {b9 b10 : Nat} (h : SpJ w lf v u9 u10 b9 b10 wr) : SpJ w lf v u10 u9 b10 b9 wr := ⟨h.base, h.n10, h.n9, h.ne.symm, h.g10, h.g9⟩
theorem SpJ.put9 {w wr : World} {lf : Bool} {v u9 u10 u : Value} {b9 b10 : Nat} (h : SpJ w lf v u9 u10 b9 b10 wr) : SpJ w lf v u u10 b9 b10 (wr.setCell ⟨b9, 1, none⟩ u) :=
  ⟨h.base.far h.g9, h.n9.put, h.n10.far h.ne, h.ne, h.g9, h.g10⟩
end Go.Proofs.YtdgcdekgleegbaaGreat
/- Bodies of rows that are told by other rows; nothing of the program. -/
namespace Go.Proofs.YtdgcdekgleegbaaGreat
namespace Sl
open Oc
variable {α β : Type}
def Sh.via (S : Sh α) (f : β → α) : Sh β := ⟨fun x => S.enc (f x), fun x => S.key (f x), fun x => S.fits (f x)⟩
theorem rises_map (S : Sh α) (f : β → α) : ∀ l : List β, rises S (l.map f) = rises (S.via f) l
  | [] => rfl
  | [_] => rfl
  | a :: b :: l => by
    have := rises_map S f (b :: l)
    simp only [List.map_cons] at this ⊢
    rw [rises, rises, this]; rfl
theorem any_map (S : Sh α) (f : β → α) (l : List β) : (l.map f).any (long S) = l.any (long (S.via f)) := by
  rw [List.any_map]; rfl
theorem right_map (S : Sh α) (f : β → α) (l : List β) : right S (l.map f) = right (S.via f) l := by
  unfold right; rw [any_map, rises_map]
theorem sum_map (S : Sh α) (f : β → α) (l : List β) : sum S (l.map f) = sum (S.via f) l := by
  unfold sum; rw [List.map_map]; rfl
theorem begins_map (S : Sh α) (f : β → α) : ∀ (l : List β) (n : Nat), begins S n (l.map f) = begins (S.via f) n l
  | [], _ => rfl
  | x :: l, n => by rw [List.map_cons, begins, begins, begins_map S f l]; rfl
theorem body_map (S : Sh α) (f : β → α) (l : List β) : body S (l.map f) = body (S.via f) l := by
  unfold body; rw [begins_map, List.length_map, List.flatMap_map]; rfl
theorem bodyR_map (S : Sh α) (f : β → α) (l : List β) : bodyR S (l.map f) = bodyR (S.via f) l := by
  unfold bodyR; rw [right_map, sum_map, body_map]
theorem shR_true : shR true = shC := rfl
theorem shR_false : (shR false).via toC = shK := rfl
theorem bare_body (l : List Kd) : bodyR (shR false) (l.map toC) = bodyR shK l := by rw [bodyR_map, shR_false]
theorem bare_sum (l : List Kd) : sum (shR false) (l.map toC) = sum shK l := by rw [sum_map, shR_false]
end Sl
end Go.Proofs.YtdgcdekgleegbaaGreat
/- The program's nodes and the document's, split and joined: they agree. -/
namespace Go.Proofs.YtdgcdekgleegbaaGreat.Sl
variable {α β : Type}
theorem dif_map (S : Sh α) (f : β → α) (l : List β) (i : Nat) : dif S (l.map f) i = dif (S.via f) l i := by
  unfold dif; rw [← List.map_take, sum_map, sum_map]
theorem cutAt_map (S : Sh α) (f : β → α) (l : List β) : cutAt S (l.map f) = cutAt (S.via f) l := by
  unfold cutAt
  rw [List.length_map, show dif S (l.map f) = dif (S.via f) l from funext (dif_map S f l)]
theorem cutAt_kids (l : List Kd) : cutAt (shR false) (l.map toC) = cutAt shK l := by rw [cutAt_map, shR_false]
theorem setC_map (k : List UInt8) (l : List Kd) : setC k (l.map toC) = (setK k l).map toC := by cases l <;> rfl
theorem fkey_map (l : List Kd) : fkey (shR false) (l.map toC) = fkey shK l := by cases l <;> rfl
theorem toR_spA (n : Nd) : toR (spA n) = rsA (toR n) := by
  obtain ⟨lf, cs, ks⟩ := n
  cases lf
  · show (⟨false, (ks.take (cutAt shK ks)).map toC⟩ : Rn) = ⟨false, (ks.map toC).take (cutAt (shR false) (ks.map toC))⟩
    rw [cutAt_kids, List.map_take]
  · rfl
theorem toR_spB (n : Nd) : toR (spB n) = rsB (toR n) := by
  obtain ⟨lf, cs, ks⟩ := n
  cases lf
  · show (⟨false, (setK [] (ks.drop (cutAt shK ks))).map toC⟩ : Rn) = ⟨false, setC [] ((ks.map toC).drop (cutAt (shR false) (ks.map toC)))⟩
    rw [cutAt_kids, ← List.map_drop, setC_map]
  · rfl
theorem toR_spK (n : Nd) : rsK (toR n) = spK n := by
  obtain ⟨lf, cs, ks⟩ := n
  cases lf
  · show fkey (shR false) ((ks.map toC).drop (cutAt (shR false) (ks.map toC))) = fkey shK (ks.drop (cutAt shK ks))
    rw [cutAt_kids, ← List.map_drop, fkey_map]
  · rfl
theorem toR_join (a : Nd) (k : List UInt8) (b : Nd) (h : a.leaf = b.leaf) : toR (joinN a k b) = joinR (toR a) k (toR b) := by
  obtain ⟨lf, cs, ks⟩ := a
  obtain ⟨lf', cs', ks'⟩ := b
  simp only at h
  subst h
  cases lf
  · show (⟨false, (ks ++ setK k ks').map toC⟩ : Rn) = ⟨false, ks.map toC ++ setC k (ks'.map toC)⟩
    rw [List.map_append, setC_map]
  · rfl
theorem setK_back (l : List Kd) : setK (fkey shK l) (setK [] l) = l := by cases l <;> rfl
theorem join_split (lf : Bool) (l : List Cl) : joinN (spA (fromN lf l)) (spK (fromN lf l)) (spB (fromN lf l)) = fromN lf l := by
  cases lf
  · show (⟨false, [], (l.map toK).take (cutAt shK (l.map toK)) ++ setK (fkey shK ((l.map toK).drop (cutAt shK (l.map toK)))) (setK [] ((l.map toK).drop (cutAt shK (l.map toK))))⟩ : Nd) = ⟨false, [], l.map toK⟩
    rw [setK_back, List.take_append_drop]
  · show (⟨true, l.take (cutAt shC l) ++ l.drop (cutAt shC l), []⟩ : Nd) = ⟨true, l, []⟩
    rw [List.take_append_drop]
/-- Lengths that serve every call. -/
def Lim (n : Nd) (k : Nat) : Prop := n.cs.length ≤ k ∧ n.ks.length ≤ k
theorem lim_from (lf : Bool) (l : List Cl) (k : Nat) (h : l.length ≤ k) : Lim (fromN lf l) k := by
  cases lf
  · exact ⟨Nat.zero_le _, by show (l.map toK).length ≤ k; rw [List.length_map]; exact h⟩
  · exact ⟨h, Nat.zero_le _⟩
theorem lim_spA (n : Nd) (k : Nat) (h : Lim n k) : Lim (spA n) k := by
  obtain ⟨lf, cs, ks⟩ := n
  obtain ⟨h1, h2⟩ := h
  simp only at h1 h2
  cases lf
  · exact ⟨Nat.zero_le _, by show (ks.take _).length ≤ k; rw [List.length_take]; omega⟩
  · exact ⟨by show (cs.take _).length ≤ k; rw [List.length_take]; omega, Nat.zero_le _⟩
theorem lim_spB (n : Nd) (k : Nat) (h : Lim n k) : Lim (spB n) k := by
  obtain ⟨lf, cs, ks⟩ := n
  obtain ⟨h1, h2⟩ := h
  simp only at h1 h2
  cases lf
  · exact ⟨Nat.zero_le _, by show (setK [] (ks.drop _)).length ≤ k; rw [setK_len, List.length_drop]; omega⟩
  · exact ⟨by show (cs.drop _).length ≤ k; rw [List.length_drop]; omega, Nat.zero_le _⟩
theorem lim_join (a b : Nd) (s : List UInt8) (k : Nat) (h : Lim a k) (h' : Lim b k) : Lim (joinN a s b) (k + k) := by
  obtain ⟨lf, cs, ks⟩ := a
  obtain ⟨lf', cs', ks'⟩ := b
  obtain ⟨h1, h2⟩ := h
  obtain ⟨h3, h4⟩ := h'
  simp only at h1 h2 h3 h4
  cases lf
  · exact ⟨Nat.zero_le _, by show (ks ++ setK s ks').length ≤ _; rw [List.length_append, setK_len]; omega⟩
  · exact ⟨by show (cs ++ cs').length ≤ _; rw [List.length_append]; omega, Nat.zero_le _⟩
theorem lim_toR (n : Nd) (k : Nat) (h : Lim n k) : (toR n).l.length ≤ k := by
  obtain ⟨lf, cs, ks⟩ := n
  cases lf
  · show (ks.map toC).length ≤ k; rw [List.length_map]; exact h.2
  · exact h.1
end Go.Proofs.YtdgcdekgleegbaaGreat.Sl
/- The contracts of the laws' own example, and of whether cells are few. -/
namespace Go.Proofs.YtdgcdekgleegbaaGreat
open Go.RowKit
open Sl (Cl Kd)
def exC : Cl := ⟨[97], [104, 105], 0, 0⟩
theorem exBody : Sl.bodyR Sl.shC [exC] = ([0, 2, 1, 97, 0, 0, 2, 104, 105], 0) := by decide +kernel
theorem bodyEx (v : Value) (w : World) (hv : SlC w v [exC]) :
    Calls Tryz.prog 56 #[shpC, v] w fun e w' => e = .returned (.tuple #[.string ⟨#[0, 2, 1, 97, 0, 0, 2, 104, 105]⟩, .int .i64 0]) ∧ Below w.heap.size w w' := by
  have := bodyC_any v [exC] (by decide) (by intro x hx; simp at hx; subst hx; exact ⟨by decide, by decide⟩) w hv
  rw [exBody] at this
  exact this
theorem sizeEx (w : World) :
    Calls Tryz.prog 137 #[shpC, .agg #[.string ⟨#[97]⟩, .string ⟨#[104, 105]⟩, .int .u32 0, .int .u32 0]] w fun e w' => e = .returned (.int .i64 9) ∧ Below w.heap.size w w' :=
  sizeC_any exC ⟨by decide, by decide⟩ w
theorem slEx (W : World) : SlC (W.alloc (.cells #[.string ⟨#[97]⟩, .string ⟨#[104, 105]⟩, .int .u32 0, .int .u32 0] 32)) (.slice (some ⟨W.heap.size, 0, none⟩) 1 1) [exC] := by
  refine ⟨_, W.heap.size, 0, 1, rfl, .inr rfl, fun j x hj => ?_⟩
  obtain rfl : j = 0 := by
    have := (List.getElem?_eq_some_iff.1 hj).1
    simp at this; exact this
  simp at hj
  subst hj
  refine ⟨?_, ?_, ?_, ?_⟩
  · exact (World.cell?_alloc_new W #[.string ⟨#[97]⟩, .string ⟨#[104, 105]⟩, .int .u32 0, .int .u32 0] 32 0)
  · exact (World.cell?_alloc_new W #[.string ⟨#[97]⟩, .string ⟨#[104, 105]⟩, .int .u32 0, .int .u32 0] 32 1)
  · exact (World.cell?_alloc_new W #[.string ⟨#[97]⟩, .string ⟨#[104, 105]⟩, .int .u32 0, .int .u32 0] 32 2)
  · exact (World.cell?_alloc_new W #[.string ⟨#[97]⟩, .string ⟨#[104, 105]⟩, .int .u32 0, .int .u32 0] 32 3)
theorem slEx2 (w : World) (o : Obj) : SlC ((w.alloc o).alloc (.cells #[.string ⟨#[97]⟩, .string ⟨#[104, 105]⟩, .int .u32 0, .int .u32 0] 32)) (.slice (some ⟨w.heap.size + 1, 0, none⟩) 1 1) [exC] := by
  have := slEx (w.alloc o)
  rwa [show (w.alloc o).heap.size = w.heap.size + 1 by simp] at this
def FewOk (l : List Cl) : Prop := l.length ≤ 400 ∧ ∀ x ∈ l, x.key.length ≤ 300 ∧ x.val.length ≤ 500
inductive FewOut (l : List Cl) (w : World) (e : Ending) (w' : World) : Prop
  | yes (he : e = .returned (.bool true)) (hx : FewOk l) (hb : Below w.heap.size w w')
  | no (he : e = .returned (.bool false)) (hb : Below w.heap.size w w')
set_option maxHeartbeats 2000000 in
set_option maxRecDepth 100000 in
theorem few_any (v : Value) (l : List Cl) (hll : l.length ≤ maxLen) (w : World) (hv : SlC w v l) :
    Calls Tryz.prog 11 #[v] w (FewOut l w) := by
  unfold maxLen at hll
  obtain ⟨a, b, o, c, rfl, ha, hx⟩ := hv
  have HX := Lib.hid hx
  have HA := Lib.hid ha
  clear ha hx
  go_enter Tryz.func11, Tryz.ntmps11
  go_wp2
  go_loopg [7] l.length (fun n i wr => ∃ k : Nat, k ≤ l.length ∧ n = l.length - k ∧ i = .int .i64 k ∧ Hid (∀ (j : Nat) (x : Cl), j < k → l[j]? = some x → l.length ≤ 400 ∧ x.key.length ≤ 300 ∧ x.val.length ≤ 500) ∧ Hid (Below w.heap.size w wr))
  case atStart => exact ⟨0, Nat.zero_le _, rfl, rfl, fun j x hj => absurd hj (Nat.not_lt_zero j), Below.refl _ _⟩
  case round =>
    obtain ⟨k, hk, rfl, rfl, HM, HB⟩ := hrel
    by_cases hlt : k < l.length
    · obtain ⟨x, hx⟩ := take_some l k hlt
      have HXK := Lib.hid hx
      obtain ⟨e0, e1, e2, e3⟩ := HX.out k x hx
      have hblt : b < w.heap.size := World.block_lt_of_cell? _ _ e0
      have d0 := (HB.out.cell (p := ⟨b, o + k * 4, none⟩) hblt).trans e0
      have d1 := (HB.out.cell (p := ⟨b, o + k * 4 + 1, none⟩) hblt).trans e1
      have d2 := (HB.out.cell (p := ⟨b, o + k * 4 + 2, none⟩) hblt).trans e2
      have d3 := (HB.out.cell (p := ⟨b, o + k * 4 + 3, none⟩) hblt).trans e3
      obtain rfl : a = some ⟨b, o, none⟩ := by
        rcases HA.out with h | h
        · rw [h] at hlt; cases hlt
        · exact h
      have HBa : Hid (Below w.heap.size w (wr.alloc (.cells #[.string (str x.key), .string (str x.val), .int .u32 x.chain, .int .u32 x.long] 32))) := HB.out.alloc HB.out.size _
      have hs1 := str_size x.key
      have hs2 := str_size x.val
      clear e0 e1 e2 e3 hx
      by_cases h1 : (400 : Int) < l.length
      · go_wp2
        go_ret
        exact .no rfl HBa.out
      · by_cases h2 : (300 : Int) < x.key.length
        · go_wp2
          go_ret
          exact .no rfl HBa.out
        · by_cases h3 : (500 : Int) < x.val.length
          · go_wp2
            go_ret
            exact .no rfl HBa.out
          · have HN : Hid (∀ (j : Nat) (y : Cl), j < k + 1 → l[j]? = some y → l.length ≤ 400 ∧ y.key.length ≤ 300 ∧ y.val.length ≤ 500) := by
              intro j y hj hy
              by_cases hjk : j < k
              · exact HM.out j y hjk hy
              · obtain rfl : j = k := by omega
                rw [HXK.out] at hy
                cases hy
                exact ⟨by omega, by omega, by omega⟩
            go_wp2
            go_roundg (l.length - (k + 1))
            case measure => omega
            case rel => exact ⟨k + 1, by omega, rfl, by go_num, HN, HBa⟩
    · obtain rfl : k = l.length := by omega
      have HF : Hid (FewOk l) := by
        refine ⟨?_, fun x hx => ?_⟩
        · cases hl : l with
          | nil => decide
          | cons y t => rw [← hl]; exact (HM.out 0 y (by rw [hl]; simp) (by rw [hl]; rfl)).1
        · obtain ⟨j, hj⟩ := List.getElem?_of_mem hx
          exact (HM.out j x (List.getElem?_eq_some_iff.1 hj).1 hj).2
      go_wp2
      go_ret
      exact .yes rfl HF.out HB.out
end Go.Proofs.YtdgcdekgleegbaaGreat
/- The law's own example of nodes. -/
namespace Go.Proofs.YtdgcdekgleegbaaGreat
open Go.RowKit
open Sl (Cl Kd Nd Rn)
def exN : Nd := ⟨true, [⟨[97], [], 0, 0⟩, ⟨[98], [], 0, 0⟩], []⟩
theorem exK : Sl.spK exN = [98] := by decide +kernel
theorem exA : (Sl.spA exN).cs.length = 1 ∧ (Sl.spB exN).cs.length = 1 ∧ str (Sl.spK exN) = ⟨#[98]⟩ ∧ (Sl.spA exN).leaf = true ∧ (Sl.spB exN).leaf = true := ⟨by decide +kernel, by decide +kernel, by rw [exK]; rfl, by decide +kernel, by decide +kernel⟩
theorem slTwo (W : World) (x y : Cl) : SlC (W.alloc (.cells #[.string (str x.key), .string (str x.val), .int .u32 x.chain, .int .u32 x.long, .string (str y.key), .string (str y.val), .int .u32 y.chain, .int .u32 y.long] 32)) (.slice (some ⟨W.heap.size, 0, none⟩) 2 2) [x, y] := by
  refine ⟨_, W.heap.size, 0, 2, rfl, .inr rfl, fun j z hj => ?_⟩
  have hj2 : j < 2 := (List.getElem?_eq_some_iff.1 hj).1
  match j, hj2 with
  | 0, _ =>
    simp at hj; subst hj
    exact ⟨World.cell?_alloc_new W _ _ 0, World.cell?_alloc_new W _ _ 1, World.cell?_alloc_new W _ _ 2, World.cell?_alloc_new W _ _ 3⟩
  | 1, _ =>
    simp at hj; subst hj
    exact ⟨World.cell?_alloc_new W _ _ 4, World.cell?_alloc_new W _ _ 5, World.cell?_alloc_new W _ _ 6, World.cell?_alloc_new W _ _ 7⟩
theorem nawake_any (w : World) : Calls Tryz.prog 73 #[] w fun e w' => e = .returned (.bool true) ∧ Below w.heap.size w w' := by
  have HS := Lib.hid (fun W v (hv : NdV W v exN) => split_any v exN W hv (by decide) (by decide) (by intro x hx; simp [exN] at hx; rcases hx with rfl | rfl <;> exact ⟨by decide, by decide⟩) (by intro x hx; simp [exN] at hx))
  have HV : Hid (NdV (w.alloc (.cells #[.string ⟨#[97]⟩, .string ⟨#[]⟩, .int .u32 0, .int .u32 0, .string ⟨#[98]⟩, .string ⟨#[]⟩, .int .u32 0, .int .u32 0] 32)) (.agg #[.bool true, .slice (some ⟨w.heap.size, 0, none⟩) 2 2, .slice none 0 0]) exN) :=
    ⟨_, _, rfl, slTwo w ⟨[97], [], 0, 0⟩ ⟨[98], [], 0, 0⟩, ⟨_, _, _, Nat.le_refl _, by decide, fun h => by cases h⟩, SlK.nil _, cap_nil⟩
  have HB : Hid (∀ o1, Below w.heap.size w (w.alloc o1)) := fun o1 => (Below.refl _ _).alloc (Nat.le_refl _) _
  go_enter Tryz.func73, Tryz.ntmps73
  go_wp2_with (go_at_call 101; refine (HS.out _ _ HV.out).mono ?_; rintro e w1 ⟨u, v, rfl, hu, hv, hb1⟩; obtain ⟨vc, vk, rfl, hc, hcc, hk, hkk⟩ := hu; obtain ⟨vc', vk', rfl, hc', hcc', hk', hkk'⟩ := hv; obtain ⟨a1, b1, o1, c1, rfl, _, _⟩ := hc; obtain ⟨a2, b2, o2, c2, rfl, _, _⟩ := hc'; obtain ⟨e1, e2, e3, e4, e5⟩ := exA; rw [e1, e2, e3, e4, e5]; unfold ndV; obtain ⟨a3, n3, c3, _, _, _⟩ := hkk; obtain ⟨a4, n4, c4, _, _, _⟩ := hkk'; have HB1 := Lib.hid ((HB.out _).trans (hb1.mono (HB.out _).size)); clear hk hk' hcc hcc' hb1)
  go_ret
  exact ⟨rfl, (HB1.out.alloc HB1.out.size _).alloc (Nat.le_trans HB1.out.size (by simp)) _⟩
end Go.Proofs.YtdgcdekgleegbaaGreat
/- The law's own example of a tree. -/
namespace Go.Proofs.YtdgcdekgleegbaaGreat
open Go.RowKit Go.Maps
open Sl (Cl Kd Nd Rn)
theorem nawake2_any (w : World) : Calls Tryz.prog 44 #[] w fun e w' => e = .returned (.bool true) ∧ Below w.heap.size w w' := by
  go_enter Tryz.func44, Tryz.ntmps44
  go_wp2_with (go_at_call 73; refine (nawake_any _).mono ?_; rintro e w1 ⟨rfl, hb1⟩; have HB := Lib.hid hb1; clear hb1)
  go_ret
  exact ⟨rfl, HB.out⟩
theorem mem_not_nil (w : World) (q : Nat) : (binOp .eql 24 (.pointer (some ⟨q, 0, none⟩)) (.pointer none)).run Tryz.prog w = .ok (.bool false) w := by kernel_rfl
def exTC : Cl := ⟨[97], [104, 105], 0, 0⟩
def exT : Nd := ⟨true, Sl.putL Sl.shC [] exTC, []⟩
theorem exT_cs : exT.cs = [exTC] := rfl
theorem exT_body : (Sl.bodyR Sl.shC [exTC]).2 = 0 := by decide +kernel
theorem tawake_any (w : World) : Calls Tryz.prog 8 #[] w fun e w' => e = .returned (.bool true) ∧ Below w.heap.size w w' := by
  have HN := Lib.hid (new_any w)
  have hmn := fun W => mem_not_nil W (w.heap.size + 1)
  have HP : Hid (∀ W q p b B, TS W q p b B 0 0 0 0 (fun _ => none) → B ≤ W.heap.size → Calls Tryz.prog 18 #[.pointer (some ⟨q, 0, none⟩), .agg #[.string ⟨#[97]⟩, .string ⟨#[104, 105]⟩, .int .u32 0, .int .u32 0]] W fun e w' => e = .returned (.tuple #[.agg #[.string ⟨#[]⟩, .string ⟨#[]⟩, .int .u32 0, .int .u32 0], .bool false, .int .i64 0]) ∧ TS w' q p b B 1 1 0 2 (upd (fun _ => none) 2 (some exT)) ∧ Off (fun k => k = p ∨ k = b ∨ k = q) W w') := fun W q p b B hT hB => put_empty hT hB exTC ⟨by decide, by decide⟩ exT_body (by decide) (by decide)
  have HG : Hid (∀ W q p b B, TS W q p b B 1 1 0 2 (upd (fun _ => none) 2 (some exT)) → Calls Tryz.prog 15 #[.pointer (some ⟨q, 0, none⟩), .string ⟨#[97]⟩] W fun e w' => e = .returned (.tuple #[.agg #[.string ⟨#[97]⟩, .string ⟨#[104, 105]⟩, .int .u32 0, .int .u32 0], .bool true, .int .i64 0]) ∧ Below W.heap.size W w') := fun W q p b B hT => get_leaf hT (by decide) (by decide) (upd_same _ _ _) rfl (by decide) (by decide) (by decide +kernel) [97] true (by decide +kernel) exTC rfl
  have HD : Hid (∀ W q p b B, TS W q p b B 1 1 0 2 (upd (fun _ => none) 2 (some exT)) → Calls Tryz.prog 22 #[.pointer (some ⟨q, 0, none⟩)] W fun e w' => e = .returned (.tuple #[.int .i64 1, .int .i64 0]) ∧ Below W.heap.size W w') := fun W q p b B hT => depth_leaf hT (by decide) (by decide) (upd_same _ _ _) rfl (by decide) (by decide)
  go_enter Tryz.func8, Tryz.ntmps8
  go_wp2_with (first
    | (go_at_call 9; refine HN.out.mono ?_; rintro e w1 ⟨rfl, hm, hb1⟩; have HM := Lib.hid hm; have HB1 := Lib.hid hb1; clear hm hb1)
    | (go_at_call 44; refine (nawake2_any _).mono ?_; rintro e w2 ⟨rfl, hb2⟩; have HM2 := Lib.hid (HM.out.below hb2); have HB2 := Lib.hid (HB1.out.trans (hb2.mono HB1.out.size)); clear hb2)
    | (go_at_call 10; refine (tover_any (w.heap.size + 1) 0 _).mono ?_; rintro e w3 ⟨rfl, ht, hb3⟩; have HT := Lib.hid (TS.mk (HM2.out.below hb3) ht (Nat.ne_of_gt HM2.out.p_lt) (Nat.ne_of_gt HM2.out.b_lt)); have HB3 := Lib.hid (HB2.out.trans (hb3.mono HB2.out.size)); have HQ := Lib.hid HB2.out.size; have HZ : Hid (w.heap.size + 1 + 1 ≤ w3.heap.size) := (Nat.le_trans HM2.out.p_lt hb3.size); clear ht hb3)
    | (go_at_call 18; refine (HP.out _ _ _ _ _ HT.out HZ.out).mono ?_; rintro e w4 ⟨rfl, ht4, ho4⟩; have HT4 := Lib.hid (fun o => ht4.below ((Below.refl _ _).alloc (Nat.le_refl _) o)); have HB4 := Lib.hid (fun o => (HB3.out.trans (ho4.below HB3.out.size (by have := HQ.out; rintro k (rfl | rfl | rfl) <;> omega))).alloc (Nat.le_trans HB3.out.size ho4.size) o); clear ht4 ho4)
    | (go_at_call 15; refine (HG.out _ _ _ _ _ (HT4.out _)).mono ?_; rintro e w5 ⟨rfl, hb5⟩; have HT5 := Lib.hid (fun o => ((HT4.out _).below hb5).below ((Below.refl _ _).alloc (Nat.le_refl _) o)); have HB5 := Lib.hid (fun o => ((HB4.out _).trans (hb5.mono (HB4.out _).size)).alloc (Nat.le_trans (HB4.out _).size hb5.size) o); have HK5 := Lib.hid (Kp.laid (Below.refl _ w5) (Nat.le_refl _) #[.string ⟨#[97]⟩, .string ⟨#[104, 105]⟩, .int .u32 0, .int .u32 0] 32); clear hb5)
    | (go_at_call 22; refine (HD.out _ _ _ _ _ (HT5.out _)).mono ?_; rintro e w6 ⟨rfl, hb6⟩; have HB6 := Lib.hid ((HB5.out _).trans (hb6.mono (HB5.out _).size)); have HK6 := Lib.hid (HK5.out.step (Nat.le_refl _) hb6); obtain ⟨⟨z0, z1, z2, z3⟩, _⟩ := HK6.out.four; clear hb6))
  go_ret
  exact ⟨rfl, HB6.out⟩
end Go.Proofs.YtdgcdekgleegbaaGreat
/- A row of cells that is handed in, as the walk takes it. -/
namespace Go.Proofs.YtdgcdekgleegbaaGreat
open Go.ChangeShapes Go.WideShapes Go.ChangeAt Go.RowKit Go.Deep
open Sl (Cl Kd)
theorem cells42 : Tryz.prog.cellsOf 32 = 4 := by kernel_rfl
theorem cellsS : Tryz.prog.cellsOf 9 = 1 ∧ Tryz.prog.cellsOf 28 = 1 := ⟨by kernel_rfl, by kernel_rfl⟩
instance : Inhabited Cl := ⟨⟨[], [], 0, 0⟩⟩
theorem list4 {α : Type} (l : List α) (h : l.length = 4) : ∃ a b c d, l = [a, b, c, d] := by
  rcases l with _ | ⟨a, _ | ⟨b, _ | ⟨c, _ | ⟨d, _ | ⟨e, l⟩⟩⟩⟩⟩
  all_goals first | (cases h; done) | exact ⟨_, _, _, _, rfl⟩ | (simp at h)
set_option maxRecDepth 100000 in
theorem open_cells {H : Type} {enc : TypeId × Value → H} {W : World} {r : Reach} {b0 b1 : Nat} {sp : Nat → Bool} {held : Bool} {v : Value} {d : DataW H} {p : List MemPlace}
    (hv : Value.okWide Tryz.prog W r b0 29 v) (h : DataW.Trod enc Tryz.prog W b1 sp held 29 v d p) :
    ∃ l : List Cl, l.length ≤ maxLen ∧ (∀ x ∈ l, okC x) ∧ SlC W v l := by
  obtain ⟨a0, len, cap, rfl⟩ := okWide_slice Tryz.underlying29 hv
  obtain ⟨fuel, hf⟩ := h
  rcases open_slice Tryz.underlying29 hf with hcs | ⟨a, len', cap', m, n, D, Pl, hcs, _, hl, hm, hz, _, hcell⟩
  · have hcs := hcs.1
    simp [Value.cells] at hcs
    obtain ⟨rfl, rfl, rfl⟩ := hcs
    exact ⟨[], Nat.zero_le _, fun p hp => by simp at hp, none, 0, 0, 0, rfl, .inl rfl, fun j p hj => by simp at hj⟩
  · simp [Value.cells] at hcs
    obtain ⟨rfl, rfl, rfl⟩ := hcs
    have hlen : len ≤ m := by rw [hz]; split <;> omega
    have each : ∀ i, i < len → ∃ x : Cl, okC x ∧ W.cell? (a.add (i * 4)) = some (.string (str x.key)) ∧ W.cell? (a.add (i * 4 + 1)) = some (.string (str x.val)) ∧ W.cell? (a.add (i * 4 + 2)) = some (.int .u32 x.chain) ∧ W.cell? (a.add (i * 4 + 3)) = some (.int .u32 x.long) := by
      intro i hi
      obtain ⟨cs', h1, h2⟩ := hcell i (by omega)
      rw [cells42] at h1
      obtain ⟨_, hlen', hcc⟩ := World.cells?_some h1
      obtain ⟨xs, k, hk, hxy, _, hxl, hf'⟩ := DataW.trod_struct Tryz.underlying32 h2
      obtain ⟨v0, v1, v2, v3, rfl⟩ := list4 cs' hlen'
      obtain ⟨y0, y1, y2, y3, rfl⟩ := list4 xs hxl
      have g0 : DataW.trod enc Tryz.prog W b1 sp held k 9 ([v0, v1, v2, v3].drop 0 |>.take (Tryz.prog.cellsOf 9)) = some y0 := hf' 0 _ rfl
      have g1 : DataW.trod enc Tryz.prog W b1 sp held k 9 ([v0, v1, v2, v3].drop 1 |>.take (Tryz.prog.cellsOf 9)) = some y1 := hf' 1 _ rfl
      have g2 : DataW.trod enc Tryz.prog W b1 sp held k 28 ([v0, v1, v2, v3].drop 2 |>.take (Tryz.prog.cellsOf 28)) = some y2 := hf' 2 _ rfl
      have g3 : DataW.trod enc Tryz.prog W b1 sp held k 28 ([v0, v1, v2, v3].drop 3 |>.take (Tryz.prog.cellsOf 28)) = some y3 := hf' 3 _ rfl
      rw [cellsS.1] at g0 g1
      rw [cellsS.2] at g2 g3
      obtain ⟨s, hs, _, _⟩ := DataW.trod_string Tryz.underlying9 g0
      obtain ⟨t, ht, _, _⟩ := DataW.trod_string Tryz.underlying9 g1
      obtain ⟨q, hq, _, wq⟩ := DataW.trod_int Tryz.underlying28 g2
      obtain ⟨u, hu, _, wu⟩ := DataW.trod_int Tryz.underlying28 g3
      have c0 := hcc 0 (by omega)
      have c1 := hcc 1 (by omega)
      have c2 := hcc 2 (by omega)
      have c3 := hcc 3 (by omega)
      rw [add_add] at c0 c1 c2 c3
      have hs' : v0 = .string s := by simpa using hs
      have ht' : v1 = .string t := by simpa using ht
      have hq' : v2 = .int .u32 q := by simpa using hq
      have hu' : v3 = .int .u32 u := by simpa using hu
      obtain ⟨h3, h4⟩ := bounds_u32 wq
      obtain ⟨h5, h6⟩ := bounds_u32 wu
      obtain ⟨N, rfl⟩ := Int.eq_ofNat_of_zero_le h3
      obtain ⟨M, rfl⟩ := Int.eq_ofNat_of_zero_le h5
      refine ⟨⟨s.data.toList, t.data.toList, N, M⟩, ⟨by show N < _; omega, by show M < _; omega⟩, ?_, ?_, ?_, ?_⟩
      · rw [str_eq, ← hs']; simpa using c0
      · rw [str_eq, ← ht']; simpa using c1
      · rw [← hq']; simpa using c2
      · rw [← hu']; simpa using c3
    by_cases h0 : len = 0
    · subst h0
      exact ⟨[], Nat.zero_le _, fun p hp => by simp at hp, some a, 0, 0, cap, rfl, .inl rfl, fun j p hj => by simp at hj⟩
    · obtain ⟨b, off, spot⟩ := a
      obtain ⟨p0, _, hsp, _⟩ := each 0 (by omega)
      have hspot : spot = none := by simpa [Addr.add] using World.cell?_spot hsp
      subst hspot
      obtain ⟨f, hfx⟩ := choose_lt each
      refine ⟨(List.range len).map f, by simp; omega, ?_, some ⟨b, off, none⟩, b, off, cap, by simp, .inr rfl, fun j p hj => ?_⟩
      · intro p hp
        obtain ⟨i, hi, rfl⟩ := List.mem_map.1 hp
        exact (hfx i (List.mem_range.1 hi)).1
      · have hjl : j < len := by
          have := (List.getElem?_eq_some_iff.1 hj).1
          simpa using this
        simp [hjl] at hj
        subst hj
        obtain ⟨_, c0, c1, c2, c3⟩ := hfx j hjl
        rw [add_plain] at c0 c1 c2 c3
        refine ⟨c0, ?_, ?_, ?_⟩
        · rw [Nat.add_assoc]; exact c1
        · rw [Nat.add_assoc]; exact c2
        · rw [Nat.add_assoc]; exact c3
end Go.Proofs.YtdgcdekgleegbaaGreat
