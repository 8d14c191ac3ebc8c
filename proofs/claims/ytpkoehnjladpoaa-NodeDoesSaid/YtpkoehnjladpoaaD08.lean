/- Texts of one seat, merged. -/
import Derived.Test.YtpkoehnjladpoaaD07
import Derived.Test.YtpkoehnjladpoaaD03
import Derived.StillTailTactics
import Derived.Deep.DeepCutAuto
import Derived.Deep.RegionWith
import Derived.Shelf.Strings.Builder1
import Derived.Shelf.Small.Strs
import Derived.Test.YtpkoehnjladpoaaProg
import Derived.Test.YtpkoehnjladpoaaD01
import Derived.Lib.Builder
import Derived.Lib.AppendStr
import Derived.Test.YtpkoehnjladpoaaD02
set_option maxRecDepth 100000
set_option maxHeartbeats 4000000
set_option linter.unusedVariables false
/- The contract of the document's own Split. -/
namespace Go.Proofs.Ytpkoehnjladpoaa.Sl
def rsQ (n : Rn) : Nat := cutAt (shR n.leaf) n.l
def rsA (n : Rn) : Rn := ⟨n.leaf, n.l.take (rsQ n)⟩
def rsB (n : Rn) : Rn := ⟨n.leaf, keyR n.leaf [] (n.l.drop (rsQ n))⟩
def rsK (n : Rn) : List UInt8 := fkey (shR n.leaf) (n.l.drop (rsQ n))
theorem rsQ_small (n : Rn) (h : n.l.length < 2) : rsQ n = n.l.length := by unfold rsQ cutAt; rw [if_pos h]
end Go.Proofs.Ytpkoehnjladpoaa.Sl
namespace Go.Proofs.Ytpkoehnjladpoaa
open Go.RowKit
open Sl (Cl Kd Nd Rn)
inductive SplitR (n : Rn) (w : World) (e : Ending) (w' : World) : Prop
  | mk (u v : Value) (he : e = .returned (.tuple #[u, .string (str (Sl.rsK n)), v])) (hu : RnV w' u (Sl.rsA n)) (hv : RnV w' v (Sl.rsB n)) (hb : Below w.heap.size w w')
theorem startS (w : World) (lf : Bool) (x : Value) (W : World) (hW : W = ((w.alloc (.cells #[.bool lf, x] 49)).alloc (.cells #[.bool false, .slice none 0 0] 49)).alloc (.cells #[.bool false, .slice none 0 0] 49)) :
    W.cell? ⟨w.heap.size, 0, none⟩ = some (.bool lf) ∧ W.cell? ⟨w.heap.size, 1, none⟩ = some x ∧ Z2 W (w.heap.size + 1) ∧ Z2 W (w.heap.size + 1 + 1) ∧ Below w.heap.size w W := by
  subst hW
  have s1 : (w.alloc (.cells #[.bool lf, x] 49)).heap.size = w.heap.size + 1 := by simp
  have s2 : ((w.alloc (.cells #[.bool lf, x] 49)).alloc (.cells #[.bool false, .slice none 0 0] 49)).heap.size = w.heap.size + 1 + 1 := by simp
  have b2 := ((Below.refl _ (w.alloc (.cells #[.bool lf, x] 49))).alloc (Nat.le_refl _) (.cells #[.bool false, .slice none 0 0] 49)).alloc (by simp) (.cells #[.bool false, .slice none 0 0] 49)
  obtain ⟨p0, p1, _, _⟩ := z2At (w := w) (b := lf) (v := x) rfl
  have hz := Z2.new (w.alloc (.cells #[.bool lf, x] 49))
  have hz2 := Z2.new ((w.alloc (.cells #[.bool lf, x] 49)).alloc (.cells #[.bool false, .slice none 0 0] 49))
  rw [s1] at hz
  rw [s2] at hz2
  exact ⟨(b2.cell (p := ⟨w.heap.size, 0, none⟩) (show w.heap.size < _ by omega)).trans p0, (b2.cell (p := ⟨w.heap.size, 1, none⟩) (show w.heap.size < _ by omega)).trans p1, hz.below ((Below.refl _ _).alloc (Nat.le_refl _) _), hz2, (((Below.refl _ _).alloc (Nat.le_refl _) _).alloc (by simp) _).alloc (by simp <;> omega) _⟩
/-- What holds of the world while Split goes on. -/
structure SpI (w : World) (lf : Bool) (v : Value) (wr : World) : Prop where
  leaf : wr.cell? ⟨w.heap.size, 0, none⟩ = some (.bool lf)
  row : wr.cell? ⟨w.heap.size, 1, none⟩ = some v
  za : Z2 wr (w.heap.size + 1)
  zb : Z2 wr (w.heap.size + 1 + 1)
  below : Below w.heap.size w wr
theorem SpI.step {w wr w' : World} {lf : Bool} {v : Value} (h : SpI w lf v wr) (hb : Below wr.heap.size wr w') : SpI w lf v w' :=
  ⟨(hb.cell (World.block_lt_of_cell? _ _ h.leaf)).trans h.leaf, (hb.cell (World.block_lt_of_cell? _ _ h.row)).trans h.row, h.za.below hb, h.zb.below hb, h.below.trans (hb.mono h.below.size)⟩
theorem stepS2 {w w1 w2 : World} {p0 p1 : Addr} {x0 x1 : Value} {g h : Nat} (H : w1.cell? p0 = some x0 ∧ w1.cell? p1 = some x1 ∧ Z2 w1 g ∧ Z2 w1 h ∧ Below w.heap.size w w1) (hb : Below w1.heap.size w1 w2) :
    w2.cell? p0 = some x0 ∧ w2.cell? p1 = some x1 ∧ Z2 w2 g ∧ Z2 w2 h ∧ Below w.heap.size w w2 := by
  obtain ⟨h0, h1, h2, h3, h4⟩ := H
  exact ⟨(hb.cell (p := p0) (World.block_lt_of_cell? _ _ h0)).trans h0, (hb.cell (p := p1) (World.block_lt_of_cell? _ _ h1)).trans h1, h2.below hb, h3.below hb, h4.trans (hb.mono h4.size)⟩
theorem lastS2 {w w1 : World} {p0 p1 : Addr} {x0 x1 : Value} {g h : Nat} (H : w1.cell? p0 = some x0 ∧ w1.cell? p1 = some x1 ∧ Z2 w1 g ∧ Z2 w1 h ∧ Below w.heap.size w w1) : Below w.heap.size w w1 := H.2.2.2.2
theorem encC_le' (lf : Bool) (l : List Cl) (h : l.length ≤ 100000) : Sl.sum (Sl.shR lf) l ≤ 6579600000 := by
  have h1 : ∀ x : Cl, ((Sl.shR lf).enc x).length ≤ 65794 := by
    intro x
    cases lf
    · exact Nat.le_trans (Sl.encK_len (toK x)) (by decide)
    · exact Sl.encC_len x
  have h2 := Sl.sum_le (Sl.shR lf) 65794 h1 l
  omega
/-- A box of a node, as it is. -/
structure Nb (w : World) (g : Nat) (lf : Bool) (v : Value) : Prop where
  c0 : w.cell? ⟨g, 0, none⟩ = some (.bool lf)
  c1 : w.cell? ⟨g, 1, none⟩ = some v
  f0 : w.frozen? ⟨g, 0, none⟩ = false
  f1 : w.frozen? ⟨g, 1, none⟩ = false
theorem Nb.lt {w : World} {g : Nat} {lf : Bool} {v : Value} (h : Nb w g lf v) : g < w.heap.size := World.block_lt_of_cell? _ _ h.c0
theorem Nb.belowB {w w' : World} {g B : Nat} {lf : Bool} {v : Value} (h : Nb w g lf v) (hb : Below B w w') (hg : g < B) : Nb w' g lf v :=
  ⟨(hb.cell (p := ⟨g, 0, none⟩) hg).trans h.c0, (hb.cell (p := ⟨g, 1, none⟩) hg).trans h.c1, (hb.frozen (p := ⟨g, 0, none⟩) hg).trans h.f0, (hb.frozen (p := ⟨g, 1, none⟩) hg).trans h.f1⟩
theorem Nb.far {w : World} {g b : Nat} {i : Nat} {lf : Bool} {v u : Value} (h : Nb w g lf v) (hb : b ≠ g) : Nb (w.setCell ⟨b, i, none⟩ u) g lf v :=
  ⟨(World.cell?_setCell_far _ _ _ _ hb).trans h.c0, (World.cell?_setCell_far _ _ _ _ hb).trans h.c1, (World.frozen?_setCell _ _ _ _).trans h.f0, (World.frozen?_setCell _ _ _ _).trans h.f1⟩
theorem Nb.put {w : World} {g : Nat} {lf : Bool} {v u : Value} (h : Nb w g lf v) : Nb (w.setCell ⟨g, 1, none⟩ u) g lf u :=
  ⟨(World.cell?_setCell_other _ _ _ _ (by simp)).trans h.c0, World.cell?_setCell_same' _ _ _ (by rw [h.c1]; rfl), (World.frozen?_setCell _ _ _ _).trans h.f0, (World.frozen?_setCell _ _ _ _).trans h.f1⟩
theorem Nb.at {w : World} {g : Nat} {lf : Bool} {v : Value} (hg : w.heap.size = g) : Nb (w.alloc (.cells #[.bool lf, v] 49)) g lf v := by
  obtain ⟨h0, h1, h2, h3⟩ := z2At (b := lf) (v := v) hg
  exact ⟨h0, h1, h2, h3⟩
theorem Z2.nb {w : World} {g : Nat} (h : Z2 w g) : Nb w g false (.slice none 0 0) := ⟨h.z0, h.z1, h.f0, h.f1⟩
theorem Nb.z2 {w : World} {g : Nat} (h : Nb w g false (.slice none 0 0)) : Z2 w g := ⟨h.c0, h.c1, h.f0, h.f1⟩
theorem SpI.far {w wr : World} {b i : Nat} {lf : Bool} {v u : Value} (h : SpI w lf v wr) (hb : w.heap.size + 1 + 1 < b) : SpI w lf v (wr.setCell ⟨b, i, none⟩ u) :=
  ⟨(World.cell?_setCell_far _ _ _ _ (show b ≠ w.heap.size by omega)).trans h.leaf, (World.cell?_setCell_far _ _ _ _ (show b ≠ w.heap.size by omega)).trans h.row, (h.za.nb.far (by omega)).z2, (h.zb.nb.far (by omega)).z2, h.below.setCell (show w.heap.size ≤ b by omega) _⟩
/-- What holds when the two nodes have been made. -/
structure SpJ (w : World) (lf : Bool) (v u9 u10 : Value) (b9 b10 : Nat) (wr : World) : Prop where
  base : SpI w lf v wr
  n9 : Nb wr b9 lf u9
  n10 : Nb wr b10 lf u10
  ne : b9 ≠ b10
  g9 : w.heap.size + 1 + 1 < b9
  g10 : w.heap.size + 1 + 1 < b10
theorem SpJ.step {w wr w' : World} {lf : Bool} {v u9 u10 : Value} {b9 b10 : Nat} (h : SpJ w lf v u9 u10 b9 b10 wr) (hb : Below wr.heap.size wr w') : SpJ w lf v u9 u10 b9 b10 w' :=
  ⟨h.base.step hb, h.n9.belowB hb h.n9.lt, h.n10.belowB hb h.n10.lt, h.ne, h.g9, h.g10⟩
theorem SpJ.belowB {w wr w' : World} {lf : Bool} {v u9 u10 : Value} {b9 b10 B : Nat} (h : SpJ w lf v u9 u10 b9 b10 wr) (hb : Below B wr w') (h1 : w.heap.size + 1 + 1 < B) (h2 : b9 < B) (h3 : b10 < B) : SpJ w lf v u9 u10 b9 b10 w' :=
  ⟨⟨(hb.cell (p := ⟨w.heap.size, 0, none⟩) (show w.heap.size < B by omega)).trans h.base.leaf, (hb.cell (p := ⟨w.heap.size, 1, none⟩) (show w.heap.size < B by omega)).trans h.base.row, (h.base.za.nb.belowB hb (by omega)).z2, (h.base.zb.nb.belowB hb (by omega)).z2, h.base.below.trans (hb.mono (by omega))⟩, h.n9.belowB hb h2, h.n10.belowB hb h3, h.ne, h.g9, h.g10⟩
/-- The end of Split: four stores into the two results' boxes. -/
theorem splitEnd {w W : World} {lf : Bool} {vv v9 v10 : Value} {b9 b10 B9 B10 : Nat} {l9 l10 : List Cl} {n : Rn} (hJ : SpJ w lf vv v9 v10 b9 b10 W) (r9 : RowC W B9 v9 l9) (r10 : RowC W B10 v10 l10) (h9 : w.heap.size + 1 + 1 < B9) (h10 : w.heap.size + 1 + 1 < B10)
    (hA : Sl.rsA n = ⟨lf, l9⟩) (hB : Sl.rsB n = ⟨lf, l10⟩) (c9 : Cap v9) (c10 : Cap v10) (W' : World)
    (hW : W' = (((W.drew.setCell ⟨w.heap.size + 1, 0, none⟩ (.bool lf)).setCell ⟨w.heap.size + 1, 1, none⟩ v9).setCell ⟨w.heap.size + 1 + 1, 0, none⟩ (.bool lf)).setCell ⟨w.heap.size + 1 + 1, 1, none⟩ v10 ∨
      W' = (((W.drew.setCell ⟨w.heap.size + 1 + 1, 0, none⟩ (.bool lf)).setCell ⟨w.heap.size + 1 + 1, 1, none⟩ v10).setCell ⟨w.heap.size + 1, 0, none⟩ (.bool lf)).setCell ⟨w.heap.size + 1, 1, none⟩ v9) :
    SplitR n w (.returned (.tuple #[rnV lf v9, .string (str (Sl.rsK n)), rnV lf v10])) W' := by
  have s9 := r9.below (Below.refl _ W).drew
  have s10 := r10.below (Below.refl _ W).drew
  have hq9 : w.heap.size + 1 < B9 := by omega
  have hq10 : w.heap.size + 1 < B10 := by omega
  have hb := hJ.base.below.drew
  rcases hW with rfl | rfl
  · refine ⟨_, _, rfl, ?_, ?_, (((hb.setCell (show w.heap.size ≤ w.heap.size + 1 by omega) _).setCell (show w.heap.size ≤ w.heap.size + 1 by omega) _).setCell (show w.heap.size ≤ w.heap.size + 1 + 1 by omega) _).setCell (show w.heap.size ≤ w.heap.size + 1 + 1 by omega) _⟩
    · rw [hA]; exact ⟨_, rfl, ((((s9.set hq9 _).set hq9 _).set h9 _).set h9 _).sl, c9⟩
    · rw [hB]; exact ⟨_, rfl, ((((s10.set hq10 _).set hq10 _).set h10 _).set h10 _).sl, c10⟩
  · refine ⟨_, _, rfl, ?_, ?_, (((hb.setCell (show w.heap.size ≤ w.heap.size + 1 + 1 by omega) _).setCell (show w.heap.size ≤ w.heap.size + 1 + 1 by omega) _).setCell (show w.heap.size ≤ w.heap.size + 1 by omega) _).setCell (show w.heap.size ≤ w.heap.size + 1 by omega) _⟩
    · rw [hA]; exact ⟨_, rfl, ((((s9.set h9 _).set h9 _).set hq9 _).set hq9 _).sl, c9⟩
    · rw [hB]; exact ⟨_, rfl, ((((s10.set h10 _).set h10 _).set hq10 _).set hq10 _).sl, c10⟩
theorem SpJ.two {w wr : World} {lf : Bool} {v : Value} (h : SpI w lf v wr) : SpJ w lf v (.slice none 0 0) (.slice none 0 0) wr.heap.size (wr.heap.size + 1) ((wr.alloc (.cells #[.bool lf, .slice none 0 0] 49)).alloc (.cells #[.bool lf, .slice none 0 0] 49)) := by
  have h1 : (wr.alloc (.cells #[.bool lf, .slice none 0 0] 49)).heap.size = wr.heap.size + 1 := by simp
  have hz := h.zb.lt
  exact ⟨(h.step ((Below.refl _ _).alloc (Nat.le_refl _) _)).step ((Below.refl _ _).alloc (Nat.le_refl _) _), (Nb.at rfl).belowB ((Below.refl _ _).alloc (Nat.le_refl _) _) (by omega), Nb.at h1, by omega, hz, by omega⟩
theorem SpJ.swap {w wr : World} {lf : Bool} {v u9 u10 : Value} {b9 b10 : Nat} (h : SpJ w lf v u9 u10 b9 b10 wr) : SpJ w lf v u10 u9 b10 b9 wr := ⟨h.base, h.n10, h.n9, h.ne.symm, h.g10, h.g9⟩
theorem SpJ.put9 {w wr : World} {lf : Bool} {v u9 u10 u : Value} {b9 b10 : Nat} (h : SpJ w lf v u9 u10 b9 b10 wr) : SpJ w lf v u u10 b9 b10 (wr.setCell ⟨b9, 1, none⟩ u) :=
  ⟨h.base.far h.g9, h.n9.put, h.n10.far h.ne, h.ne, h.g9, h.g10⟩
end Go.Proofs.Ytpkoehnjladpoaa
/- Bodies of rows that are told by other rows; nothing of the program. -/
namespace Go.Proofs.Ytpkoehnjladpoaa
namespace Sl
open Oc
variable {α β : Type}
def Sh.via (S : Sh α) (f : β → α) : Sh β := ⟨fun x => S.enc (f x), fun x => S.key (f x), fun x => S.fits (f x)⟩
theorem rises_map (S : Sh α) (f : β → α) : ∀ l : List β, rises S (l.map f) = rises (S.via f) l
  | [] => rfl
  | [_] => rfl
  | a :: b :: l => by
    have := rises_map S f (b :: l)
    simp only [List.map_cons] at this ⊢
    rw [rises, rises, this]; rfl
theorem any_map (S : Sh α) (f : β → α) (l : List β) : (l.map f).any (long S) = l.any (long (S.via f)) := by
  rw [List.any_map]; rfl
theorem right_map (S : Sh α) (f : β → α) (l : List β) : right S (l.map f) = right (S.via f) l := by
  unfold right; rw [any_map, rises_map]
theorem sum_map (S : Sh α) (f : β → α) (l : List β) : sum S (l.map f) = sum (S.via f) l := by
  unfold sum; rw [List.map_map]; rfl
theorem begins_map (S : Sh α) (f : β → α) : ∀ (l : List β) (n : Nat), begins S n (l.map f) = begins (S.via f) n l
  | [], _ => rfl
  | x :: l, n => by rw [List.map_cons, begins, begins, begins_map S f l]; rfl
theorem body_map (S : Sh α) (f : β → α) (l : List β) : body S (l.map f) = body (S.via f) l := by
  unfold body; rw [begins_map, List.length_map, List.flatMap_map]; rfl
theorem bodyR_map (S : Sh α) (f : β → α) (l : List β) : bodyR S (l.map f) = bodyR (S.via f) l := by
  unfold bodyR; rw [right_map, sum_map, body_map]
theorem shR_true : shR true = shC := rfl
theorem shR_false : (shR false).via toC = shK := rfl
theorem bare_body (l : List Kd) : bodyR (shR false) (l.map toC) = bodyR shK l := by rw [bodyR_map, shR_false]
theorem bare_sum (l : List Kd) : sum (shR false) (l.map toC) = sum shK l := by rw [sum_map, shR_false]
end Sl
end Go.Proofs.Ytpkoehnjladpoaa
/- The program's nodes and the document's, split and joined: they agree. -/
namespace Go.Proofs.Ytpkoehnjladpoaa.Sl
variable {α β : Type}
theorem dif_map (S : Sh α) (f : β → α) (l : List β) (i : Nat) : dif S (l.map f) i = dif (S.via f) l i := by
  unfold dif; rw [← List.map_take, sum_map, sum_map]
theorem cutAt_map (S : Sh α) (f : β → α) (l : List β) : cutAt S (l.map f) = cutAt (S.via f) l := by
  unfold cutAt
  rw [List.length_map, show dif S (l.map f) = dif (S.via f) l from funext (dif_map S f l)]
theorem cutAt_kids (l : List Kd) : cutAt (shR false) (l.map toC) = cutAt shK l := by rw [cutAt_map, shR_false]
theorem setC_map (k : List UInt8) (l : List Kd) : setC k (l.map toC) = (setK k l).map toC := by cases l <;> rfl
theorem fkey_map (l : List Kd) : fkey (shR false) (l.map toC) = fkey shK l := by cases l <;> rfl
theorem toR_spA (n : Nd) : toR (spA n) = rsA (toR n) := by
  obtain ⟨lf, cs, ks⟩ := n
  cases lf
  · show (⟨false, (ks.take (cutAt shK ks)).map toC⟩ : Rn) = ⟨false, (ks.map toC).take (cutAt (shR false) (ks.map toC))⟩
    rw [cutAt_kids, List.map_take]
  · rfl
theorem toR_spB (n : Nd) : toR (spB n) = rsB (toR n) := by
  obtain ⟨lf, cs, ks⟩ := n
  cases lf
  · show (⟨false, (setK [] (ks.drop (cutAt shK ks))).map toC⟩ : Rn) = ⟨false, setC [] ((ks.map toC).drop (cutAt (shR false) (ks.map toC)))⟩
    rw [cutAt_kids, ← List.map_drop, setC_map]
  · rfl
theorem toR_spK (n : Nd) : rsK (toR n) = spK n := by
  obtain ⟨lf, cs, ks⟩ := n
  cases lf
  · show fkey (shR false) ((ks.map toC).drop (cutAt (shR false) (ks.map toC))) = fkey shK (ks.drop (cutAt shK ks))
    rw [cutAt_kids, ← List.map_drop, fkey_map]
  · rfl
theorem toR_join (a : Nd) (k : List UInt8) (b : Nd) (h : a.leaf = b.leaf) : toR (joinN a k b) = joinR (toR a) k (toR b) := by
  obtain ⟨lf, cs, ks⟩ := a
  obtain ⟨lf', cs', ks'⟩ := b
  simp only at h
  subst h
  cases lf
  · show (⟨false, (ks ++ setK k ks').map toC⟩ : Rn) = ⟨false, ks.map toC ++ setC k (ks'.map toC)⟩
    rw [List.map_append, setC_map]
  · rfl
theorem setK_back (l : List Kd) : setK (fkey shK l) (setK [] l) = l := by cases l <;> rfl
theorem join_split (lf : Bool) (l : List Cl) : joinN (spA (fromN lf l)) (spK (fromN lf l)) (spB (fromN lf l)) = fromN lf l := by
  cases lf
  · show (⟨false, [], (l.map toK).take (cutAt shK (l.map toK)) ++ setK (fkey shK ((l.map toK).drop (cutAt shK (l.map toK)))) (setK [] ((l.map toK).drop (cutAt shK (l.map toK))))⟩ : Nd) = ⟨false, [], l.map toK⟩
    rw [setK_back, List.take_append_drop]
  · show (⟨true, l.take (cutAt shC l) ++ l.drop (cutAt shC l), []⟩ : Nd) = ⟨true, l, []⟩
    rw [List.take_append_drop]
/-- Lengths that serve every call. -/
def Lim (n : Nd) (k : Nat) : Prop := n.cs.length ≤ k ∧ n.ks.length ≤ k
theorem lim_from (lf : Bool) (l : List Cl) (k : Nat) (h : l.length ≤ k) : Lim (fromN lf l) k := by
  cases lf
  · exact ⟨Nat.zero_le _, by show (l.map toK).length ≤ k; rw [List.length_map]; exact h⟩
  · exact ⟨h, Nat.zero_le _⟩
theorem lim_spA (n : Nd) (k : Nat) (h : Lim n k) : Lim (spA n) k := by
  obtain ⟨lf, cs, ks⟩ := n
  obtain ⟨h1, h2⟩ := h
  simp only at h1 h2
  cases lf
  · exact ⟨Nat.zero_le _, by show (ks.take _).length ≤ k; rw [List.length_take]; omega⟩
  · exact ⟨by show (cs.take _).length ≤ k; rw [List.length_take]; omega, Nat.zero_le _⟩
theorem lim_spB (n : Nd) (k : Nat) (h : Lim n k) : Lim (spB n) k := by
  obtain ⟨lf, cs, ks⟩ := n
  obtain ⟨h1, h2⟩ := h
  simp only at h1 h2
  cases lf
  · exact ⟨Nat.zero_le _, by show (setK [] (ks.drop _)).length ≤ k; rw [setK_len, List.length_drop]; omega⟩
  · exact ⟨by show (cs.drop _).length ≤ k; rw [List.length_drop]; omega, Nat.zero_le _⟩
theorem lim_join (a b : Nd) (s : List UInt8) (k : Nat) (h : Lim a k) (h' : Lim b k) : Lim (joinN a s b) (k + k) := by
  obtain ⟨lf, cs, ks⟩ := a
  obtain ⟨lf', cs', ks'⟩ := b
  obtain ⟨h1, h2⟩ := h
  obtain ⟨h3, h4⟩ := h'
  simp only at h1 h2 h3 h4
  cases lf
  · exact ⟨Nat.zero_le _, by show (ks ++ setK s ks').length ≤ _; rw [List.length_append, setK_len]; omega⟩
  · exact ⟨by show (cs ++ cs').length ≤ _; rw [List.length_append]; omega, Nat.zero_le _⟩
theorem lim_toR (n : Nd) (k : Nat) (h : Lim n k) : (toR n).l.length ≤ k := by
  obtain ⟨lf, cs, ks⟩ := n
  cases lf
  · show (ks.map toC).length ≤ k; rw [List.length_map]; exact h.2
  · exact h.1
end Go.Proofs.Ytpkoehnjladpoaa.Sl
/- The library's contracts for strings.Builder, strings.Compare, laid at this program's numbers by the guide's own tool. -/
namespace Go.Proofs
open Go.Shelf
def Try.lays170_ren : Go.Shelf.Ren := ⟨fun | 170 => 48 | n => n, fun | 70 => 88 | 3 => 3 | 0 => 0 | 72 => 91 | 37 => 89 | 5 => 5 | n => n, fun | n => n⟩
theorem Try.lays170 : Go.Proofs.Lays.n170 Try.prog Try.lays170_ren := {
  mixed := by kernel_rfl
  f170 := Try.func48.trans (congrArg some (by kernel_rfl))
  t0 := Try.underlying0
  a0 := Try.isAgg0
  z0 := Try.sizeOf0
  v0 := Try.zeroValue0
  t3 := Try.underlying3
  a3 := Try.isAgg3
  z3 := Try.sizeOf3
  v3 := Try.zeroValue3
  t37 := Try.underlying89
  a37 := Try.isAgg89
  z37 := Try.sizeOf89
  v37 := Try.zeroValue89
  t70 := Try.underlying88
  a70 := Try.isAgg88
  z70 := Try.sizeOf88
  v70 := Try.zeroValue88
  t72 := Try.underlying91
  a72 := Try.isAgg91
  z72 := Try.sizeOf91
  v72 := Try.zeroValue91 }
open Go.RowKit in
theorem Try.Builder_Len (B b : Nat) (bs : List Value) (w : World) (h : Lib.IsBuilder 91 5 B b bs w) :
    Calls Try.prog 48 #[.pointer (some ⟨b, 0, none⟩)] w fun e w' => e = .returned (.int .i64 bs.length) ∧ w' = w := Any.Builder_Len Try.lays170 B b bs w h
def Try.lays169_ren : Go.Shelf.Ren := ⟨fun | 169 => 49 | n => n, fun | 70 => 88 | 9 => 9 | 0 => 0 | 72 => 91 | 37 => 89 | 127 => 150 | 3 => 3 | 5 => 5 | n => n, fun | n => n⟩
theorem Try.lays169 : Go.Proofs.Lays.n169 Try.prog Try.lays169_ren := {
  mixed := by kernel_rfl
  f169 := Try.func49.trans (congrArg some (by kernel_rfl))
  t0 := Try.underlying0
  a0 := Try.isAgg0
  z0 := Try.sizeOf0
  v0 := Try.zeroValue0
  t3 := Try.underlying3
  a3 := Try.isAgg3
  z3 := Try.sizeOf3
  v3 := Try.zeroValue3
  t9 := Try.underlying9
  a9 := Try.isAgg9
  z9 := Try.sizeOf9
  v9 := Try.zeroValue9
  t37 := Try.underlying89
  a37 := Try.isAgg89
  z37 := Try.sizeOf89
  v37 := Try.zeroValue89
  t70 := Try.underlying88
  a70 := Try.isAgg88
  z70 := Try.sizeOf88
  v70 := Try.zeroValue88
  t72 := Try.underlying91
  a72 := Try.isAgg91
  z72 := Try.sizeOf91
  v72 := Try.zeroValue91
  t127 := Try.underlying150
  a127 := Try.isAgg150
  z127 := Try.sizeOf150
  v127 := Try.zeroValue150 }
theorem Try.Builder_Extra_169 : Builder.Extra Try.prog Try.lays169_ren := {
  sizeBuilder := by kernel_rfl
  liesBuilder := by kernel_rfl
  t5 := Try.underlying5
  a5 := Try.isAgg5
  z5 := Try.sizeOf5
  v5 := Try.zeroValue5
  infoByte := by kernel_rfl
  cellsByte := by kernel_rfl
  sizeByte := by kernel_rfl
  neB5 := by decide }
open Go.RowKit in
theorem Try.Builder_String (B b : Nat) (l : List UInt8) (w : World) (h : Lib.IsBuilder 91 5 B b (Lib.byteCells l) w) (h0 : l ≠ []) :
    Calls Try.prog 49 #[.pointer (some ⟨b, 0, none⟩)] w fun e w' => e = .returned (.string ⟨l.toArray⟩) ∧ Below B w w' := Any.Builder_String Try.lays169 Try.Builder_Extra_169 B b l w h h0
open Go.RowKit in
theorem Try.Builder_String_empty (B b : Nat) (w : World) (h : Lib.IsBuilder 91 5 B b [] w) (hBw : B ≤ w.heap.size) :
    Calls Try.prog 49 #[.pointer (some ⟨b, 0, none⟩)] w fun e w' => e = .returned (.string ⟨#[]⟩) ∧ Below B w w' := Any.Builder_String_empty Try.lays169 Try.Builder_Extra_169 B b w h hBw
open Go.RowKit in
theorem Try.Builder_String_any (B b : Nat) (l : List UInt8) (w : World) (h : Lib.IsBuilder 91 5 B b (Lib.byteCells l) w) (hBw : B ≤ w.heap.size) :
    Calls Try.prog 49 #[.pointer (some ⟨b, 0, none⟩)] w fun e w' => e = .returned (.string ⟨l.toArray⟩) ∧ Below B w w' := Any.Builder_String_any Try.lays169 Try.Builder_Extra_169 B b l w h hBw
def Try.lays213_ren : Go.Shelf.Ren := ⟨fun | 213 => 140 | 265 => 169 | n => n, fun | 9 => 9 | 3 => 3 | n => n, fun | n => n⟩
theorem Try.lays213 : Go.Proofs.Lays.n213 Try.prog Try.lays213_ren := {
  mixed := by kernel_rfl
  f213 := Try.func140.trans (congrArg some (by kernel_rfl))
  f265 := Try.func169.trans (congrArg some (by kernel_rfl))
  t3 := Try.underlying3
  a3 := Try.isAgg3
  z3 := Try.sizeOf3
  v3 := Try.zeroValue3
  t9 := Try.underlying9
  a9 := Try.isAgg9
  z9 := Try.sizeOf9
  v9 := Try.zeroValue9 }
open Go.RowKit in
theorem Try.bytealg_CompareString (a b : ByteArray) (w : World) :
    Calls Try.prog 140 #[.string a, .string b] w fun e w' => e = .returned (.int .i64 (Lib.compareBytes a.data.toList b.data.toList)) ∧ w' = w := Any.bytealg_CompareString Try.lays213 a b w
def Try.lays106_ren : Go.Shelf.Ren := ⟨fun | 106 => 105 | 213 => 140 | 265 => 169 | n => n, fun | 9 => 9 | 3 => 3 | n => n, fun | n => n⟩
theorem Try.lays106 : Go.Proofs.Lays.n106 Try.prog Try.lays106_ren := {
  mixed := by kernel_rfl
  f106 := Try.func105.trans (congrArg some (by kernel_rfl))
  f213 := Try.func140.trans (congrArg some (by kernel_rfl))
  f265 := Try.func169.trans (congrArg some (by kernel_rfl))
  t3 := Try.underlying3
  a3 := Try.isAgg3
  z3 := Try.sizeOf3
  v3 := Try.zeroValue3
  t9 := Try.underlying9
  a9 := Try.isAgg9
  z9 := Try.sizeOf9
  v9 := Try.zeroValue9 }
open Go.RowKit in
theorem Try.strings_Compare (a b : ByteArray) (w : World) :
    Calls Try.prog 105 #[.string a, .string b] w fun e w' => e = .returned (.int .i64 (Lib.compareBytes a.data.toList b.data.toList)) ∧ w' = w := Any.strings_Compare Try.lays106 a b w
end Go.Proofs
/- The contracts of strings.Builder's copyCheck and WriteString in this program. -/
namespace Go.Proofs.Ytpkoehnjladpoaa
open Go.RowKit
theorem size86 : (Try.prog.info? 91).map (fun i => i.size) = some 2 := by kernel_rfl
theorem lies86 : liesAt Try.prog Try.prog.depth 91 (2 / Try.prog.cellsOf 91) 0 91 1 = true := by kernel_rfl
theorem infoByte : (Try.prog.info? 5).map (fun i => (i.zero, i.size, i.bytes)) = some (some (.int .u8 0), 1, 1) := by kernel_rfl
set_option maxRecDepth 100000 in
theorem copyCheck_used (b : Nat) (w : World) (h0 : w.cell? ⟨b, 0, none⟩ = some (.pointer (some ⟨b, 0, none⟩))) :
    Calls Try.prog 88 #[.pointer (some ⟨b, 0, none⟩)] w fun e w' => e = .returned (.tuple #[]) ∧ w = w' := by
  obtain ⟨j, hj, _⟩ := Option.map_eq_some_iff.1 size86
  go_enter Try.func88, Try.ntmps88
  go_wp2
  rw [Lib.run_neq_ptr_same w _ Try.underlying88 hj]
  go_wp2
  go_end0
  exact ⟨rfl, rfl⟩
set_option maxRecDepth 100000 in
theorem copyCheck_fresh (b : Nat) (w : World) (h0 : w.cell? ⟨b, 0, none⟩ = some (.pointer none)) (hsh : w.shape? b = some (91, 2)) (hfz : w.frozen? ⟨b, 0, none⟩ = false) :
    Calls Try.prog 88 #[.pointer (some ⟨b, 0, none⟩)] w fun e w' => e = .returned (.tuple #[]) ∧ w.setCell ⟨b, 0, none⟩ (.pointer (some ⟨b, 0, none⟩)) = w' := by
  obtain ⟨j, hj, hjs⟩ := Option.map_eq_some_iff.1 size86
  have h1 := Lib.run_to_unsafe (P := Try.prog) w ⟨b, 0, none⟩ Try.underlying88 Try.underlying178 hj (by rw [hjs]; decide) hsh (Nat.zero_lt_succ 1)
  have h2 := Lib.run_from_unsafe (P := Try.prog) w ⟨b, 0, none⟩ Try.underlying178 Try.underlying88 hj hsh lies86
  go_enter Try.func88, Try.ntmps88
  go_wp2
  rw [run_callFunc_extern Try.func125 (by kernel_rfl) (by kernel_rfl) (by kernel_rfl) (e := Extern.AbiNoEscape.same) (by kernel_rfl), Lib.run_noEscape]
  simp only [Result.andThen]
  rw [Oper.upon_value]
  go_wp2
  go_end0
  exact ⟨rfl, rfl⟩
theorem copyCheck_any (B b : Nat) (bs : List Value) (w : World) (h : Lib.IsBuilder 91 5 B b bs w) :
    Calls Try.prog 88 #[.pointer (some ⟨b, 0, none⟩)] w fun e w' => e = .returned (.tuple #[]) ∧ Lib.BuilderAt 91 5 B b (.pointer (some ⟨b, 0, none⟩)) bs w' ∧ Below B w w' := by
  rcases h with h | h
  · refine (copyCheck_fresh b w h.cell0 h.shape h.frozen0).mono ?_
    rintro e w' ⟨rfl, rfl⟩
    exact ⟨rfl, h.used _, (Below.refl B w).setCell (p := ⟨b, 0, none⟩) h.1 _⟩
  · refine (copyCheck_used b w h.cell0).mono ?_
    rintro e w' ⟨rfl, rfl⟩
    exact ⟨rfl, h, Below.refl B _⟩
set_option maxHeartbeats 1000000 in
theorem writeString_any (B b : Nat) (bs : List Value) (s : ByteArray) (w : World) (h : Lib.IsBuilder 91 5 B b bs w) (hlen : bs.length + s.size ≤ 140737488355328) (hBw : B ≤ w.heap.size) :
    Calls Try.prog 47 #[.pointer (some ⟨b, 0, none⟩), .string s] w fun e w' => e = .returned (.tuple #[.int .i64 s.size, .nilIface]) ∧ Lib.BuilderAt 91 5 B b (.pointer (some ⟨b, 0, none⟩)) (bs ++ Lib.strCells s) w' ∧ Below B w w' := by
  obtain ⟨i0, hi, hz0, hz1, hz2⟩ := info_parts infoByte
  go_enter Try.func47, Try.ntmps47
  go_wp2_with (go_at_call 88; refine (copyCheck_any B b bs _ h).mono ?_)
  rintro e w1 ⟨rfl, ⟨hB, v, hbk, hown, hne⟩, hb1⟩
  have hsz := hb1.size
  have c0 : w1.cell? ⟨b, 0, none⟩ = some (.pointer (some ⟨b, 0, none⟩)) := by rw [Lib.cell_of_heap hbk]; rfl
  have c1 : w1.cell? ⟨b, 1, none⟩ = some v := by rw [Lib.cell_of_heap hbk]; rfl
  go_wp2_with (at_builtin; refine Lib.wpList_append_own_string _ rfl _ _ 89 9 rfl B 5 i0 Try.underlying89 Try.underlying9 hi hz0 hz1 hz2 _ _ _ rfl hown s rfl ?c3 ?c4 ?c5 ?_)
  case c3 => unfold maxLen; omega
  case c4 => omega
  case c5 => omega
  intro v' w2 hown' hgrow _
  have hlt : b < w1.heap.size := by
    rcases Nat.lt_or_ge b w1.heap.size with h' | h'
    · exact h'
    · simp [Array.getElem?_eq_none h'] at hbk
  have hb2 : w2.heap[b]? = some (.cells #[.pointer (some ⟨b, 0, none⟩), v] 91 (0, 0)) := by
    rw [hgrow.block b hlt (fun e => hne e.symm)]
    exact hbk
  have d0 : w2.cell? ⟨b, 0, none⟩ = some (.pointer (some ⟨b, 0, none⟩)) := by rw [Lib.cell_of_heap hb2]; rfl
  have d1 : w2.cell? ⟨b, 1, none⟩ = some v := by rw [Lib.cell_of_heap hb2]; rfl
  have g1 : w2.frozen? ⟨b, 1, none⟩ = false := Lib.frozen_of_heap hb2 1
  obtain ⟨ao, m, cap, rfl⟩ : ∃ ao m cap, v' = .slice ao m cap := by
    rcases hown'.2 with ⟨hv, _⟩ | ⟨g, cap, cur, hv, _⟩
    · exact ⟨_, _, _, hv⟩
    · exact ⟨_, _, _, hv⟩
  go_wp2
  go_ret2
  refine ⟨rfl, ?_, ?_⟩
  · exact Lib.BuilderAt.put (T := 91) (e := 5) hB hb2 (bs' := bs ++ Lib.strCells s) (by simpa [Lib.strCells_length] using hown') (by decide)
  · exact (hb1.grown hgrow (by omega) (fun k hk => (hown.lt k hk).1)).setCell (p := ⟨b, 1, none⟩) hB _
end Go.Proofs.Ytpkoehnjladpoaa
/- Two builders side by side: WriteString on one leaves the other as it was; String with all that it turns. -/
namespace Go.Proofs.Ytpkoehnjladpoaa
open Go.RowKit
theorem run_str_at {P : Program} (w : World) (base : Nat) (t u ty e : TypeId) (i : TypeInfo) (ht : P.underlying t = some (.slice e)) (hu : P.underlying u = some .string) (hi : P.info? e = some i) (hz : i.zero = some (.int .u8 0))
    (hsize : i.size = 1) (hby : i.bytes = 1) (v : Value) (n : Nat) (xs : List Value) (hown : w.ownsRow base e 1 v n xs) (s : ByteArray)
    (h63 : n + s.size ≤ maxLen) (hbytes : n + s.size ≤ 140737488355328) (hbase : base ≤ w.heap.size) :
    ∃ v' w', (Builtin.append_ #[t, u] ty #[v, .string s]).run P w = .ok v' w' ∧ w'.ownsRow base e 1 v' (n + s.size) (xs ++ Lib.strCells s) ∧ w.grownBy w' v.ownBlock ∧
      (v'.ownBlock = v.ownBlock ∨ ∃ g, v'.ownBlock = some g ∧ w.heap.size ≤ g) := by
  obtain ⟨v', w', hr, ho, hg, _⟩ := Lib.run_append_own_string (P := P) w base t u ty e i ht hu hi hz hsize hby v n xs hown s h63 hbytes hbase
  refine ⟨v', w', hr, ho, hg, ?_⟩
  have hlen : xs.length = n := by simpa using hown.1
  rcases hown.2 with ⟨rfl, rfl⟩ | ⟨g, cap, cur, rfl, hbg, hgd, hnc, hcm, hcs, htake⟩
  · obtain rfl : xs = [] := List.eq_nil_of_length_eq_zero hlen
    obtain ⟨v2, w2, hr2, ho2, _, _⟩ := Lib.run_append_own_string (P := P) w w.heap.size t u ty e i ht hu hi hz hsize hby _ 0 [] (World.ownsRow_nil w w.heap.size e 1) s h63 hbytes (Nat.le_refl _)
    rw [hr] at hr2
    cases hr2
    rcases ho2.2 with ⟨rfl, _⟩ | ⟨g, cap, cur, rfl, hbg, _⟩
    · exact .inl rfl
    · exact .inr ⟨g, rfl, hbg⟩
  · by_cases hroom : n + s.size ≤ cap
    · have hr2 := Lib.run_append_room_string (P := P) w t u ty e i ht hu hi hsize g n cap cur hgd s hroom (by rw [hcs]; omega)
      rw [hr] at hr2
      cases hr2
      exact .inl rfl
    · have hr2 := Lib.run_append_grow_string (P := P) w t u ty e i (.int .u8 0) ht hu hi hz ⟨g, 0, none⟩ n cap xs (by rw [hsize]; omega) (hown.cells (g := g) rfl) s (by omega) (by unfold maxLen at h63; omega) (by rw [hby]; exact growslice_fits (by omega) (by omega))
      rw [hr] at hr2
      cases hr2
      exact .inr ⟨_, rfl, Nat.le_refl _⟩
theorem wpList_str_at {P : Program} {w : World} {ops : Array Oper} {rest : List Oper} {o : Oper} {a : Act} {Q : Exit → Act → World → Prop} (hgd : o.guard = none) (sl x : Operand) (t u : TypeId)
    (ho : o.op = .call { callee := .builtin .append, args := #[sl, x], argTypes := #[t, u] })
    (base : Nat) (e : TypeId) (i : TypeInfo) (ht : P.underlying t = some (.slice e)) (hu : P.underlying u = some .string) (hi : P.info? e = some i) (hz : i.zero = some (.int .u8 0))
    (hsize : i.size = 1) (hby : i.bytes = 1) (v : Value) (n : Nat) (xs : List Value) (hs : a.eval sl = v) (hown : w.ownsRow base e 1 v n xs) (s : ByteArray) (hx : a.eval x = .string s)
    (h63 : n + s.size ≤ maxLen) (hbytes : n + s.size ≤ 140737488355328) (hbase : base ≤ w.heap.size)
    (h : ∀ v' w', w'.ownsRow base e 1 v' (n + s.size) (xs ++ Lib.strCells s) → w.grownBy w' v.ownBlock → (v'.ownBlock = v.ownBlock ∨ ∃ g, v'.ownBlock = some g ∧ w.heap.size ≤ g) → wpList P ops Q rest (a.put o.dst v') w') : wpList P ops Q (o :: rest) a w := by
  obtain ⟨v', w', hr, h2, h3, h4⟩ := run_str_at (P := P) w base t u o.type e i ht hu hi hz hsize hby v n xs hown s h63 hbytes hbase
  refine wpList_plain hgd fun K hK => ?_
  have := hK _ _ (h v' w' h2 h3 h4)
  unfold Oper.wp execOp
  simp only [ho, resolve, invoke, builtin, Sem.run_bind, Sem.run_pure, Result.andThen_ok, List.map_toArray, List.map_cons, List.map_nil, hs, hx, hr]
  exact this
/-- A builder at block b whose buffer is v and whose bytes are bs. -/
def Bld (w : World) (B b : Nat) (v : Value) (bs : List Value) : Prop :=
  B ≤ b ∧ (w.heap[b]? = some (.cells #[.pointer none, v] 91 (0, 0)) ∨ w.heap[b]? = some (.cells #[.pointer (some ⟨b, 0, none⟩), v] 91 (0, 0))) ∧ w.ownsRow B 5 1 v bs.length bs
theorem Bld.is {w : World} {B b : Nat} {v : Value} {bs : List Value} (h : Bld w B b v bs) : Lib.IsBuilder 91 5 B b bs w := by
  obtain ⟨h1, h2, h3⟩ := h
  rcases h2 with h2 | h2
  · exact .inl ⟨h1, v, h2, h3, Lib.ownBlock_ne h3 h2 (by decide)⟩
  · exact .inr ⟨h1, v, h2, h3, Lib.ownBlock_ne h3 h2 (by decide)⟩
theorem Bld.lt {w : World} {B b : Nat} {v : Value} {bs : List Value} (h : Bld w B b v bs) : b < w.heap.size := by
  rcases Nat.lt_or_ge b w.heap.size with h' | h'
  · exact h'
  · rcases h.2.1 with h2 | h2 <;> rw [Array.getElem?_eq_none h'] at h2 <;> cases h2
theorem Bld.ne {w : World} {B b c : Nat} {v u : Value} {bs cs : List Value} (h : Bld w B b v bs) (k : Bld w B c u cs) : v.ownBlock ≠ some c := by
  rcases k.2.1 with h2 | h2 <;> exact Lib.ownBlock_ne h.2.2 h2 (by decide)
theorem Bld.row_lt {w : World} {B b : Nat} {v : Value} {bs : List Value} (h : Bld w B b v bs) {g : Nat} (hg : v.ownBlock = some g) : g < w.heap.size := by
  rcases h.2.2.2 with ⟨rfl, _⟩ | ⟨g', cap, cur, rfl, _, hgd, _⟩
  · cases hg
  · simp only [Value.ownBlock, Option.some.injEq] at hg
    subst hg
    rcases Nat.lt_or_ge g' w.heap.size with h' | h'
    · exact h'
    · rw [Array.getElem?_eq_none h'] at hgd; cases hgd
/-- What WriteString on the builder at b, with the buffer in row, leaves as it was. -/
structure Fr (b : Nat) (row : Option Nat) (w w' : World) : Prop where
  os : w'.os = w.os
  tape : w'.tape = w.tape
  output : w'.output = w.output
  size : w.heap.size ≤ w'.heap.size
  block : ∀ k, k < w.heap.size → k ≠ b → some k ≠ row → w'.heap[k]? = w.heap[k]?
theorem Fr.below {b B : Nat} {v : Value} {bs : List Value} {w w' : World} (h : Fr b v.ownBlock w w') (k : Bld w B b v bs) : Below B w w' := by
  refine ⟨h.os, h.tape, h.output, h.size, fun j hj => h.block j (Nat.lt_trans (Nat.lt_of_lt_of_le hj k.1) k.lt) (by have := k.1; omega) ?_⟩
  intro he
  rcases k.2.2.2 with ⟨rfl, _⟩ | ⟨g', cap, cur, rfl, hb, _⟩
  · cases he
  · simp only [Value.ownBlock, Option.some.injEq] at he
    omega
theorem Bld.other {w w' : World} {B b c : Nat} {v u : Value} {bs cs : List Value} (h : Bld w B b v bs) (k : Bld w B c u cs) (hne : c ≠ b) (hd : u.ownBlock = none ∨ u.ownBlock ≠ v.ownBlock) (f : Fr b v.ownBlock w w') : Bld w' B c u cs := by
  have hc : w'.heap[c]? = w.heap[c]? := f.block c k.lt hne (fun e => h.ne k e.symm)
  refine ⟨k.1, by rw [hc]; exact k.2.1, k.2.2.1, ?_⟩
  rcases k.2.2.2 with h1 | ⟨g, cap, cur, rfl, hb, hgd, rest⟩
  · exact .inl h1
  · refine .inr ⟨g, cap, cur, rfl, hb, ?_, rest⟩
    rw [f.block g (k.row_lt rfl) (fun e => (k.ne h) (by rw [e]; rfl)) (fun e => by
      rcases hd with hd | hd
      · cases hd
      · exact hd e), hgd]
theorem Bld.used {w : World} {B b : Nat} {v : Value} {bs : List Value} (h : Bld w B b v bs) :
    Calls Try.prog 88 #[.pointer (some ⟨b, 0, none⟩)] w fun e w' => e = .returned (.tuple #[]) ∧ w'.heap[b]? = some (.cells #[.pointer (some ⟨b, 0, none⟩), v] 91 (0, 0)) ∧ w'.ownsRow B 5 1 v bs.length bs ∧ Fr b none w w' := by
  have hne := h.ne h
  obtain ⟨h1, h2, h3⟩ := h
  rcases h2 with h2 | h2
  · have hB : Lib.BuilderAt 91 5 B b (.pointer none) bs w := ⟨h1, v, h2, h3, hne⟩
    refine (copyCheck_fresh b w hB.cell0 hB.shape hB.frozen0).mono ?_
    rintro e w' ⟨rfl, rfl⟩
    refine ⟨rfl, by simp [World.setCell, Array.getElem?_modify, h2], ?_, ⟨rfl, rfl, rfl, by simp [World.setCell], fun k _ hk _ => Below.heap_setCell _ _ _ _ hk⟩⟩
    exact h3.kept (row := some b) ⟨rfl, rfl, rfl, by simp [World.setCell], fun k _ hk => Below.heap_setCell _ _ _ _ (fun e => hk (by simp [e]))⟩ (.inr hne)
  · have hB : Lib.BuilderAt 91 5 B b (.pointer (some ⟨b, 0, none⟩)) bs w := ⟨h1, v, h2, h3, hne⟩
    refine (copyCheck_used b w hB.cell0).mono ?_
    rintro e w' ⟨rfl, rfl⟩
    exact ⟨rfl, h2, h3, ⟨rfl, rfl, rfl, Nat.le_refl _, fun _ _ _ _ => rfl⟩⟩
/-- What WriteString leaves. -/
def Wrote (B b : Nat) (v : Value) (bs : List Value) (w : World) (w' : World) : Prop :=
  ∃ v', Bld w' B b v' bs ∧ (v'.ownBlock = v.ownBlock ∨ ∃ g, v'.ownBlock = some g ∧ w.heap.size ≤ g) ∧ Fr b v.ownBlock w w'
set_option maxHeartbeats 1000000 in
set_option maxRecDepth 100000 in
theorem write_at (B b : Nat) (v : Value) (bs : List Value) (s : ByteArray) (w : World) (h : Bld w B b v bs) (hlen : bs.length + s.size ≤ 140737488355328) :
    Calls Try.prog 47 #[.pointer (some ⟨b, 0, none⟩), .string s] w fun e w' => e = .returned (.tuple #[.int .i64 s.size, .nilIface]) ∧ Wrote B b v (bs ++ Lib.strCells s) w w' := by
  obtain ⟨i0, hi, hz0, hz1, hz2⟩ := info_parts infoByte
  have hB1 := h.1
  have hlt0 := h.lt
  have hvb := h.ne h
  go_enter Try.func47, Try.ntmps47
  go_wp2_with (go_at_call 88; refine (h.used).mono ?_)
  rintro e w1 ⟨rfl, hbk, hown, hf1⟩
  have hsz := hf1.size
  have c0 : w1.cell? ⟨b, 0, none⟩ = some (.pointer (some ⟨b, 0, none⟩)) := by rw [Lib.cell_of_heap hbk]; rfl
  have c1 : w1.cell? ⟨b, 1, none⟩ = some v := by rw [Lib.cell_of_heap hbk]; rfl
  go_wp2_with (at_builtin; refine wpList_str_at rfl _ _ 89 9 rfl B 5 i0 Try.underlying89 Try.underlying9 hi hz0 hz1 hz2 _ _ _ rfl hown s rfl ?c3 ?c4 ?c5 ?_)
  case c3 => unfold maxLen; omega
  case c4 => omega
  case c5 => omega
  intro v' w2 hown' hgrow hloc
  have hlt : b < w1.heap.size := Nat.lt_of_lt_of_le hlt0 hsz
  have hb2 : w2.heap[b]? = some (.cells #[.pointer (some ⟨b, 0, none⟩), v] 91 (0, 0)) := by
    rw [hgrow.block b hlt (fun e => hvb e.symm)]
    exact hbk
  have d0 : w2.cell? ⟨b, 0, none⟩ = some (.pointer (some ⟨b, 0, none⟩)) := by rw [Lib.cell_of_heap hb2]; rfl
  have d1 : w2.cell? ⟨b, 1, none⟩ = some v := by rw [Lib.cell_of_heap hb2]; rfl
  have g1 : w2.frozen? ⟨b, 1, none⟩ = false := Lib.frozen_of_heap hb2 1
  have hat : ∃ ao m cap, v' = .slice ao m cap := by
    rcases hown'.2 with ⟨hv, _⟩ | ⟨g, cap, cur, hv, _⟩
    · exact ⟨_, _, _, hv⟩
    · exact ⟨_, _, _, hv⟩
  have HL := Lib.hid hloc
  have HO := Lib.hid hown'
  have HG := Lib.hid hgrow
  clear hloc hown' hgrow
  obtain ⟨ao, m, cap, rfl⟩ := hat
  go_wp2
  go_ret2
  have hown2 := HO.out
  have hput := Lib.BuilderAt.put (T := 91) (e := 5) (p := .pointer (some ⟨b, 0, none⟩)) hB1 hb2 (bs' := bs ++ Lib.strCells s) (by simpa [Lib.strCells_length] using hown2) (by decide)
  obtain ⟨_, v3, e3, o3, _⟩ := hput
  have hv3 : v3 = .slice ao m cap := by
    have : (w2.setCell ⟨b, 1, none⟩ (.slice ao m cap)).heap[b]? = some (.cells #[.pointer (some ⟨b, 0, none⟩), .slice ao m cap] 91 (0, 0)) := by simp [World.setCell, Array.getElem?_modify, hb2]
    rw [this] at e3
    cases e3; rfl
  subst hv3
  refine ⟨rfl, _, ⟨hB1, .inr e3, o3⟩, ?_, ?_⟩
  · rcases HL.out with h' | ⟨g, hg, hge⟩
    · exact .inl h'
    · exact .inr ⟨g, hg, Nat.le_trans hsz hge⟩
  · refine ⟨?_, ?_, ?_, ?_, ?_⟩
    · exact HG.out.os.trans hf1.os
    · exact HG.out.tape.trans hf1.tape
    · exact HG.out.output.trans hf1.output
    · have := HG.out.size; simp [World.setCell]; omega
    · intro k hk hkb hkr
      rw [show (w2.setCell ⟨b, 1, none⟩ (.slice ao m cap)).heap[k]? = w2.heap[k]? from Below.heap_setCell _ _ _ _ hkb, HG.out.block k (by omega) hkr, hf1.block k hk hkb (by simp)]
end Go.Proofs.Ytpkoehnjladpoaa
/- String of one of two builders, with all that it turns; the two builders together. -/
namespace Go.Proofs.Ytpkoehnjladpoaa
open Go.RowKit
theorem fr_drew {b : Nat} {row : Option Nat} (w : World) : Fr b row w w.drew := ⟨rfl, rfl, rfl, Nat.le_refl _, fun _ _ _ _ => rfl⟩
theorem fr_freeze {b g n : Nat} (w : World) : Fr b (some g) w (w.drew.freeze ⟨g, 0, none⟩ n) := by
  have h := Lib.below_freeze (Below.drew (Below.refl g w)) (p := ⟨g, 0, none⟩) (Nat.le_refl g) n
  refine ⟨h.os, h.tape, h.output, h.size, fun k _ _ hk => ?_⟩
  have hne : g ≠ k := fun e => hk (by rw [e])
  show (w.drew.freeze ⟨g, 0, none⟩ n).heap[k]? = _
  unfold World.freeze
  split
  · rfl
  · show (Array.modify _ g _)[k]? = _
    rw [Array.getElem?_modify, if_neg hne]; rfl
set_option maxHeartbeats 1000000 in
set_option maxRecDepth 100000 in
theorem string_some (B b : Nat) (v : Value) (l : List UInt8) (w : World) (h : Bld w B b v (Lib.byteCells l)) (h0 : l ≠ []) :
    Calls Try.prog 49 #[.pointer (some ⟨b, 0, none⟩)] w fun e w' => e = .returned (.string (str l)) ∧ Fr b v.ownBlock w w' := by
  obtain ⟨hB, hbk0, hown⟩ := h
  obtain ⟨p, hbk⟩ : ∃ p, w.heap[b]? = some (.cells #[p, v] 91 (0, 0)) := by
    rcases hbk0 with hb | hb
    · exact ⟨_, hb⟩
    · exact ⟨_, hb⟩
  have hl0 : l.length ≠ 0 := by simpa using h0
  rw [Lib.byteCells_length] at hown
  obtain ⟨g, cap, cur, rfl, hbg, hg, hnc, hcm, hcs, htake⟩ : ∃ g cap cur, v = .slice (some ⟨g, 0, none⟩) l.length cap ∧ B ≤ g ∧ w.heap[g]? = some (.cells cur 5 (0, 0)) ∧ l.length ≤ cap ∧ cap ≤ maxLen ∧ cur.size = cap * 1 ∧ cur.toList.take (l.length * 1) = Lib.byteCells l := by
    rcases hown.2 with ⟨_, hz⟩ | ⟨g, cap, cur, hv, r⟩
    · exact absurd hz hl0
    · exact ⟨g, cap, cur, hv, r⟩
  have c1 : w.drew.cell? ⟨b, 1, none⟩ = some (.slice (some ⟨g, 0, none⟩) l.length cap) := by
    have : w.drew.heap[b]? = some (.cells #[p, .slice (some ⟨g, 0, none⟩) l.length cap] 91 (0, 0)) := hbk
    rw [Lib.cell_of_heap this]; rfl
  have hSD : (Builtin.unsafeSliceData_ #[89] 150 #[.slice (some ⟨g, 0, none⟩) l.length cap]).run Try.prog w.drew = .ok (.pointer (some ⟨g, 0, none⟩)) w.drew :=
    Lib.run_unsafeSliceData_row _ _ _ _ _ _ (by omega)
  have hUS : (Builtin.unsafeString_ #[150, 3] 9 #[.pointer (some ⟨g, 0, none⟩), .int .i64 l.length]).run Try.prog w.drew = .ok (.string (str l)) (w.drew.freeze ⟨g, 0, none⟩ l.length) := by
    refine Lib.run_unsafeString_row w.drew 150 3 9 5 Try.underlying150 (Try.Builder_Extra_169.cellsByte) g cur.size (by have hg' : w.drew.heap[g]? = some (.cells cur 5 (0, 0)) := hg; simp [World.shape?, hg']) l h0 (by omega) (by unfold maxLen at hcm; omega) ?_
    intro j x hx
    exact hown.cells (g := g) rfl j (.int .u8 x.toNat) (by simp [Lib.byteCells, hx])
  have hfr : Hid (Fr b (some g) w (w.drew.freeze ⟨g, 0, none⟩ l.length)) := fr_freeze w
  go_enter Try.func49, Try.ntmps49
  go_wp2
  go_region
  all_goals (go_wp2; go_ret; exact ⟨rfl, hfr.out⟩)
set_option maxHeartbeats 1000000 in
set_option maxRecDepth 100000 in
theorem string_none (B b : Nat) (w : World) (h : Bld w B b (.slice none 0 0) []) :
    Calls Try.prog 49 #[.pointer (some ⟨b, 0, none⟩)] w fun e w' => e = .returned (.string (str [])) ∧ Fr b none w w' := by
  obtain ⟨hB, hbk0, hown⟩ := h
  obtain ⟨p, hbk⟩ : ∃ p, w.heap[b]? = some (.cells #[p, .slice none 0 0] 91 (0, 0)) := by
    rcases hbk0 with hb | hb
    · exact ⟨_, hb⟩
    · exact ⟨_, hb⟩
  have hUS : ∀ (w : World), (Builtin.unsafeString_ #[150, 3] 9 #[.pointer none, .int .i64 0]).run Try.prog w = .ok (.string ⟨#[]⟩) w := fun w => by kernel_rfl
  have c1 : w.drew.cell? ⟨b, 1, none⟩ = some (.slice none 0 0) := by
    have : w.drew.heap[b]? = some (.cells #[p, .slice none 0 0] 91 (0, 0)) := hbk
    rw [Lib.cell_of_heap this]; rfl
  have hSD : (Builtin.unsafeSliceData_ #[89] 150 #[.slice none 0 0]).run Try.prog w.drew = .ok (.pointer none) w.drew := rfl
  go_enter Try.func49, Try.ntmps49
  go_wp2
  go_region
  all_goals (go_wp2; go_ret; exact ⟨rfl, fr_drew w⟩)
end Go.Proofs.Ytpkoehnjladpoaa
