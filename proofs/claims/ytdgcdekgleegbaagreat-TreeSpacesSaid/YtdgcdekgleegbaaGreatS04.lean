/- Texts of one seat, merged. -/
import Derived.Test.YtdgcdekgleegbaaGreatS03
import Derived.OwnWalk
import Derived.Test.YtdgcdekgleegbaaGreatS01
import Derived.Deep.AppendLies
import Derived.Maps.AppendAt
import Derived.Deep.RegionHeld3
import Derived.Maps.OwnSet
set_option maxRecDepth 100000
set_option maxHeartbeats 4000000
set_option linter.unusedVariables false
/- Rows of cells that the law itself makes: a leaf's cells as a branch's, and back. -/
namespace Go.Proofs.YtdgcdekgleegbaaGreat
open Go.RowKit
open Sl (Cl Kd)
def toK (c : Cl) : Kd := ⟨c.key, c.chain⟩
def toC (k : Kd) : Cl := ⟨k.key, [], k.page, 0⟩
def cellsC (c : Cl) : List Value := [.string (str c.key), .string (str c.val), .int .u32 c.chain, .int .u32 c.long]
def cellsK (k : Kd) : List Value := [.string (str k.key), .int .u32 k.page]
theorem info42 : (Tryz.prog.info? 32).map (fun i => (i.zero, i.size, i.bytes)) = some (some (.agg #[.string ByteArray.empty, .string ByteArray.empty, .int .u32 0, .int .u32 0]), 4, 40) := by kernel_rfl
theorem info47 : (Tryz.prog.info? 135).map (fun i => (i.zero, i.size, i.bytes)) = some (some (.agg #[.string ByteArray.empty, .int .u32 0]), 2, 24) := by kernel_rfl
theorem flat_at {α : Type} (f : α → List Value) (s : Nat) (hf : ∀ x, (f x).length = s) : ∀ (l : List α) (j i : Nat) (p : α), l[j]? = some p → i < s → (l.flatMap f)[j * s + i]? = (f p)[i]?
  | [], j, i, p, h, _ => by simp at h
  | q :: l, 0, i, p, h, hi => by
    simp at h
    subst h
    rw [List.flatMap_cons, List.getElem?_append_left (by rw [hf]; omega)]
    simp
  | q :: l, j + 1, i, p, h, hi => by
    rw [List.flatMap_cons, List.getElem?_append_right (by rw [hf, Nat.add_mul]; omega)]
    rw [show (j + 1) * s + i - (f q).length = j * s + i by rw [hf, Nat.add_mul]; omega]
    exact flat_at f s hf l j i p (by simpa using h) hi
theorem SlC.nil (w : World) : SlC w (.slice none 0 0) [] := ⟨none, 0, 0, 0, rfl, .inl rfl, fun j p h => by simp at h⟩
theorem SlK.nil (w : World) : SlK w (.slice none 0 0) [] := ⟨none, 0, 0, 0, rfl, .inl rfl, fun j p h => by simp at h⟩
theorem flat_len {α : Type} (f : α → List Value) (s : Nat) (hf : ∀ x, (f x).length = s) (l : List α) : (l.flatMap f).length = l.length * s := by
  induction l with
  | nil => simp
  | cons p l ih => rw [List.flatMap_cons, List.length_append, ih, hf, List.length_cons, Nat.add_mul]; omega
theorem cellsC_len (c : Cl) : (cellsC c).length = 4 := rfl
theorem cellsK_len (c : Kd) : (cellsK c).length = 2 := rfl
theorem SlC.own {w : World} {B : Nat} {e : TypeId} {v : Value} {l : List Cl} (h : w.ownsRow B e 4 v l.length (l.flatMap cellsC)) : SlC w v l := by
  have hw := h
  obtain ⟨_, h1⟩ := h
  rcases h1 with ⟨rfl, h0⟩ | ⟨g, cap, cur, rfl, _⟩
  · obtain rfl : l = [] := List.length_eq_zero_iff.1 h0
    exact SlC.nil w
  · refine ⟨_, g, 0, cap, rfl, .inr rfl, fun j p hj => ?_⟩
    have hlt := (List.getElem?_eq_some_iff.1 hj).1
    have c := fun i (hi : i < 4) => (hw.cellAt (j * 4 + i) (by omega)).trans (flat_at cellsC 4 cellsC_len l j i p hj hi)
    refine ⟨?_, ?_, ?_, ?_⟩
    · have := c 0 (by omega); simpa [cellsC] using this
    · have := c 1 (by omega); simpa [cellsC, Nat.add_assoc] using this
    · have := c 2 (by omega); simpa [cellsC, Nat.add_assoc] using this
    · have := c 3 (by omega); simpa [cellsC, Nat.add_assoc] using this
theorem SlK.own {w : World} {B : Nat} {e : TypeId} {v : Value} {l : List Kd} (h : w.ownsRow B e 2 v l.length (l.flatMap cellsK)) : SlK w v l := by
  have hw := h
  obtain ⟨_, h1⟩ := h
  rcases h1 with ⟨rfl, h0⟩ | ⟨g, cap, cur, rfl, _⟩
  · obtain rfl : l = [] := List.length_eq_zero_iff.1 h0
    exact SlK.nil w
  · refine ⟨_, g, 0, cap, rfl, .inr rfl, fun j p hj => ?_⟩
    have hlt := (List.getElem?_eq_some_iff.1 hj).1
    have c := fun i (hi : i < 2) => (hw.cellAt (j * 2 + i) (by omega)).trans (flat_at cellsK 2 cellsK_len l j i p hj hi)
    refine ⟨?_, ?_⟩
    · have := c 0 (by omega); simpa [cellsK] using this
    · have := c 1 (by omega); simpa [cellsK, Nat.add_assoc] using this
theorem cellsK_new (w : World) (k : Kd) (T : TypeId) : ∀ (j : Nat) u, (cellsK k)[j]? = some u →
    (w.alloc (.cells #[.string (str k.key), .int .u32 k.page] T)).cell? ((⟨w.heap.size, 0, none⟩ : Addr).add j) = some u := by
  intro j u hj
  match j, hj with
  | 0, hj => simp [cellsK] at hj; subst hj; simp [Addr.add]
  | 1, hj => simp [cellsK] at hj; subst hj; simp [Addr.add]
  | (j + 2), hj => simp [cellsK] at hj
theorem cellsC_new (w : World) (c : Cl) (T : TypeId) : ∀ (j : Nat) u, (cellsC c)[j]? = some u →
    (w.alloc (.cells #[.string (str c.key), .string (str c.val), .int .u32 c.chain, .int .u32 c.long] T)).cell? ((⟨w.heap.size, 0, none⟩ : Addr).add j) = some u := by
  intro j u hj
  match j, hj with
  | 0, hj => simp [cellsC] at hj; subst hj; simp [Addr.add]
  | 1, hj => simp [cellsC] at hj; subst hj; simp [Addr.add]
  | 2, hj => simp [cellsC] at hj; subst hj; simp [Addr.add]
  | 3, hj => simp [cellsC] at hj; subst hj; simp [Addr.add]
  | (j + 4), hj => simp [cellsC] at hj
theorem cellsK_one (k : Kd) : ∀ u ∈ cellsK k, u.oneCell' = true := by
  intro u hu
  simp [cellsK] at hu
  rcases hu with rfl | rfl <;> rfl
theorem cellsC_one (c : Cl) : ∀ u ∈ cellsC c, u.oneCell' = true := by
  intro u hu
  simp [cellsC] at hu
  rcases hu with rfl | rfl | rfl | rfl <;> rfl
/-- A row that was made. -/
def MadeK (w : World) (l : List Kd) (e : Ending) (w' : World) : Prop := ∃ v, e = .returned v ∧ SlK w' v l ∧ Below w.heap.size w w'
def MadeC (w : World) (l : List Cl) (e : Ending) (w' : World) : Prop := ∃ v, e = .returned v ∧ SlC w' v l ∧ Below w.heap.size w w'
theorem map_take_snoc {α β : Type} (f : α → β) (l : List α) (k : Nat) (x : α) (h : l[k]? = some x) : (l.take (k + 1)).map f = (l.take k).map f ++ [f x] := by
  obtain ⟨hk, he⟩ := List.getElem?_eq_some_iff.1 h
  rw [List.take_succ_eq_append_getElem hk, he, List.map_append]; rfl
set_option maxHeartbeats 2000000 in
set_option maxRecDepth 100000 in
theorem kidsOf_any (v : Value) (l : List Cl) (hll : l.length ≤ 100000) (w : World) (hv : SlC w v l) :
    Calls Tryz.prog 64 #[v] w (MadeK w (l.map toK)) := by
  obtain ⟨i0, hi, hz0, hz1, hz2⟩ := info_parts info47
  obtain ⟨a, b, o, c, rfl, ha, hx⟩ := hv
  have HX := Lib.hid hx
  have HA := Lib.hid ha
  clear ha hx
  go_enter Tryz.func64, Tryz.ntmps64
  go_wp2
  go_loopg [3, 8] l.length (fun n s i wr => ∃ m : List Kd, m.length ≤ l.length ∧ n = l.length - m.length ∧ i = .int .i64 m.length ∧ Hid (m = (l.take m.length).map toK) ∧ Hid (wr.ownsRow w.heap.size 135 2 s m.length (m.flatMap cellsK)) ∧ Hid (Below w.heap.size w wr))
  case atStart => exact ⟨[], Nat.zero_le _, rfl, rfl, rfl, World.ownsRow_nil _ _ _ _, Below.refl _ _⟩
  case round =>
    obtain ⟨m, hk, rfl, rfl, HM, HO, HB⟩ := hrel
    by_cases hlt : m.length < l.length
    · obtain ⟨x, hx⟩ := take_some l m.length hlt
      obtain ⟨e0, e1, e2, e3⟩ := HX.out m.length x hx
      have hblt : b < w.heap.size := World.block_lt_of_cell? _ _ e0
      have d0 := (HB.out.cell (p := ⟨b, o + m.length * 4, none⟩) hblt).trans e0
      have d1 := (HB.out.cell (p := ⟨b, o + m.length * 4 + 1, none⟩) hblt).trans e1
      have d2 := (HB.out.cell (p := ⟨b, o + m.length * 4 + 2, none⟩) hblt).trans e2
      have d3 := (HB.out.cell (p := ⟨b, o + m.length * 4 + 3, none⟩) hblt).trans e3
      obtain rfl : a = some ⟨b, o, none⟩ := by
        rcases HA.out with h | h
        · rw [h] at hlt; cases hlt
        · exact h
      have HS := Lib.hid (map_take_snoc toK l m.length x hx)
      have hBs := HB.out.size
      clear e0 e1 e2 e3 hx
      go_wp2_with (at_builtin; refine wpList_append_own _ rfl _ _ 69 rfl w.heap.size 135 i0 _ 2 24 Tryz.underlying69 hi hz0 hz1 hz2 rfl (by decide) _ m.length _ rfl ((HO.out.alloc _).alloc _) ⟨wr.heap.size + 1, 0, none⟩ 1 1 (cellsK (toK x)) rfl rfl ?p1 ?p2 ?p3 ?p4 ?p5 ?_)
      case p1 => exact fun _ _ h => h
      case p2 => exact cellsK_one _
      case p3 => unfold maxLen; omega
      case p4 => omega
      case p5 => omega
      intro v' w4 hown' hgrow _
      have HO4 : Hid (w4.ownsRow w.heap.size 135 2 v' (m ++ [toK x]).length ((m ++ [toK x]).flatMap cellsK)) := by
        show w4.ownsRow _ _ _ _ _ _
        rw [List.flatMap_append, List.length_append]; simpa using hown'
      have HB4 : Hid (Below w.heap.size w w4) := ((HB.out.alloc hBs _).alloc (by simp; omega) _).grown hgrow (by simp; omega) (fun g hg => (HO.out.lt g hg).1)
      clear hown' hgrow
      go_wp2
      go_roundg (l.length - (m.length + 1))
      case measure => omega
      case rel =>
        refine ⟨m ++ [toK x], by rw [List.length_append]; exact hlt, by rw [List.length_append]; rfl, by rw [List.length_append]; go_num, ?_, HO4, HB4⟩
        show _ = _
        rw [List.length_append, show m.length + [toK x].length = m.length + 1 from rfl, HS.out, ← HM.out]
    · have hkk : m.length = l.length := by omega
      have hm : m = l.map toK := by
        have := HM.out
        rw [hkk, List.take_length] at this
        exact this
      have HMM := Lib.hid hm
      have HSK := Lib.hid (SlK.own HO.out)
      clear hm hkk
      go_wp2
      go_ret
      exact ⟨_, rfl, HMM.out ▸ HSK.out, HB.out⟩
set_option maxHeartbeats 2000000 in
set_option maxRecDepth 100000 in
theorem cellsOf_any (v : Value) (l : List Kd) (hll : l.length ≤ 100000) (w : World) (hv : SlK w v l) :
    Calls Tryz.prog 105 #[v] w (MadeC w (l.map toC)) := by
  obtain ⟨i0, hi, hz0, hz1, hz2⟩ := info_parts info42
  obtain ⟨a, b, o, c, rfl, ha, hx⟩ := hv
  have HX := Lib.hid hx
  have HA := Lib.hid ha
  clear ha hx
  go_enter Tryz.func105, Tryz.ntmps105
  go_wp2
  go_loopg [3, 8] l.length (fun n s i wr => ∃ m : List Cl, m.length ≤ l.length ∧ n = l.length - m.length ∧ i = .int .i64 m.length ∧ Hid (m = (l.take m.length).map toC) ∧ Hid (wr.ownsRow w.heap.size 32 4 s m.length (m.flatMap cellsC)) ∧ Hid (Below w.heap.size w wr))
  case atStart => exact ⟨[], Nat.zero_le _, rfl, rfl, rfl, World.ownsRow_nil _ _ _ _, Below.refl _ _⟩
  case round =>
    obtain ⟨m, hk, rfl, rfl, HM, HO, HB⟩ := hrel
    by_cases hlt : m.length < l.length
    · obtain ⟨x, hx⟩ := take_some l m.length hlt
      obtain ⟨e0, e1⟩ := HX.out m.length x hx
      have hblt : b < w.heap.size := World.block_lt_of_cell? _ _ e0
      have d0 := (HB.out.cell (p := ⟨b, o + m.length * 2, none⟩) hblt).trans e0
      have d1 := (HB.out.cell (p := ⟨b, o + m.length * 2 + 1, none⟩) hblt).trans e1
      obtain rfl : a = some ⟨b, o, none⟩ := by
        rcases HA.out with h | h
        · rw [h] at hlt; cases hlt
        · exact h
      have HS := Lib.hid (map_take_snoc toC l m.length x hx)
      have hBs := HB.out.size
      clear e0 e1 hx
      go_wp2_with (at_builtin; refine wpList_append_own _ rfl _ _ 29 rfl w.heap.size 32 i0 _ 4 40 Tryz.underlying29 hi hz0 hz1 hz2 rfl (by decide) _ m.length _ rfl ((HO.out.alloc _).alloc _) ⟨wr.heap.size + 1, 0, none⟩ 1 1 (cellsC (toC x)) rfl rfl ?p1 ?p2 ?p3 ?p4 ?p5 ?_)
      case p1 => exact fun _ _ h => h
      case p2 => exact cellsC_one _
      case p3 => unfold maxLen; omega
      case p4 => omega
      case p5 => omega
      intro v' w4 hown' hgrow _
      have HO4 : Hid (w4.ownsRow w.heap.size 32 4 v' (m ++ [toC x]).length ((m ++ [toC x]).flatMap cellsC)) := by
        show w4.ownsRow _ _ _ _ _ _
        rw [List.flatMap_append, List.length_append]; simpa using hown'
      have HB4 : Hid (Below w.heap.size w w4) := ((HB.out.alloc hBs _).alloc (by simp; omega) _).grown hgrow (by simp; omega) (fun g hg => (HO.out.lt g hg).1)
      clear hown' hgrow
      go_wp2
      go_roundg (l.length - (m.length + 1))
      case measure => omega
      case rel =>
        refine ⟨m ++ [toC x], by rw [List.length_append]; exact hlt, by rw [List.length_append]; rfl, by rw [List.length_append]; go_num, ?_, HO4, HB4⟩
        show _ = _
        rw [List.length_append, show m.length + [toC x].length = m.length + 1 from rfl, HS.out, ← HM.out]
    · have hkk : m.length = l.length := by omega
      have hm : m = l.map toC := by
        have := HM.out
        rw [hkk, List.take_length] at this
        exact this
      have HMM := Lib.hid hm
      have HSK := Lib.hid (SlC.own HO.out)
      clear hm hkk
      go_wp2
      go_ret
      exact ⟨_, rfl, HMM.out ▸ HSK.out, HB.out⟩
end Go.Proofs.YtdgcdekgleegbaaGreat
/- Where a row of cells is cut in two. -/
namespace Go.Proofs.YtdgcdekgleegbaaGreat.Sl
variable {α β : Type}
def dif (S : Sh α) (l : List α) (i : Nat) : Nat := ((2 * sum S (l.take i) : Nat) - (sum S l : Nat) : Int).natAbs
def best (d : Nat → Nat) : Nat → Nat × Nat
  | 0 => (0, 0)
  | 1 => (1, d 1)
  | k + 2 => if d (k + 2) < (best d (k + 1)).2 then (k + 2, d (k + 2)) else best d (k + 1)
theorem best_bd (d : Nat → Nat) : ∀ k, 1 ≤ k → 1 ≤ (best d k).1 ∧ (best d k).1 ≤ k
  | 0, h => absurd h (by decide)
  | 1, _ => ⟨Nat.le_refl _, Nat.le_refl _⟩
  | k + 2, _ => by
    unfold best
    have ih := best_bd d (k + 1) (Nat.succ_le_succ (Nat.zero_le _))
    split
    · exact ⟨Nat.succ_le_succ (Nat.zero_le _), Nat.le_refl _⟩
    · exact ⟨ih.1, Nat.le_succ_of_le ih.2⟩
theorem best_one (d : Nat → Nat) : best d 1 = (1, d 1) := rfl
theorem best_less (d : Nat → Nat) (k : Nat) (hk : 1 ≤ k) (h : d (k + 1) < (best d k).2) : best d (k + 1) = (k + 1, d (k + 1)) := by
  obtain ⟨k, rfl⟩ : ∃ j, k = j + 1 := ⟨k - 1, by omega⟩
  show (if _ then _ else _) = _
  rw [if_pos h]
theorem best_keep (d : Nat → Nat) (k : Nat) (hk : 1 ≤ k) (h : ¬ d (k + 1) < (best d k).2) : best d (k + 1) = best d k := by
  obtain ⟨k, rfl⟩ : ∃ j, k = j + 1 := ⟨k - 1, by omega⟩
  show (if _ then _ else _) = _
  rw [if_neg h]
/-- The two numbers that the walk keeps: behind j cuts looked at. -/
def st (S : Sh α) (l : List α) (j : Nat) : Nat × Nat := if j = 0 then (l.length, 0) else best (dif S l) j
theorem st_zero (S : Sh α) (l : List α) : st S l 0 = (l.length, 0) := rfl
theorem st_first (S : Sh α) (l : List α) : st S l 1 = (1, dif S l 1) := rfl
theorem st_less (S : Sh α) (l : List α) (j : Nat) (hj : j ≠ 0) (h : dif S l (j + 1) < (st S l j).2) : st S l (j + 1) = (j + 1, dif S l (j + 1)) := by
  unfold st at h ⊢
  rw [if_neg hj] at h
  rw [if_neg (Nat.succ_ne_zero j)]
  exact best_less _ j (by omega) h
theorem st_keep (S : Sh α) (l : List α) (j : Nat) (hj : j ≠ 0) (h : ¬ dif S l (j + 1) < (st S l j).2) : st S l (j + 1) = st S l j := by
  unfold st at h ⊢
  rw [if_neg hj] at h
  rw [if_neg (Nat.succ_ne_zero j), if_neg hj]
  exact best_keep _ j (by omega) h
def cutAt (S : Sh α) (l : List α) : Nat := if l.length < 2 then l.length else (best (dif S l) (l.length - 1)).1
theorem cutAt_le (S : Sh α) (l : List α) : cutAt S l ≤ l.length := by
  unfold cutAt
  split
  · exact Nat.le_refl _
  · have := (best_bd (dif S l) (l.length - 1) (by omega)).2; omega
theorem cutAt_pos (S : Sh α) (l : List α) (h : 2 ≤ l.length) : 1 ≤ cutAt S l ∧ cutAt S l < l.length := by
  unfold cutAt
  rw [if_neg (by omega)]
  have := best_bd (dif S l) (l.length - 1) (by omega)
  omega
theorem cutAt_st (S : Sh α) (l : List α) : cutAt S l = (st S l (l.length - 1)).1 := by
  unfold cutAt st
  by_cases h : l.length < 2
  · rw [if_pos h, if_pos (by omega)]
  · rw [if_neg h, if_neg (by omega)]
theorem sum_app (S : Sh α) (l m : List α) : sum S (l ++ m) = sum S l + sum S m := by
  unfold sum; rw [List.map_append, List.sum_append]
theorem sum_cut (S : Sh α) (l : List α) (i : Nat) : sum S (l.take i) + sum S (l.drop i) = sum S l := by
  rw [← sum_app, List.take_append_drop]
end Go.Proofs.YtdgcdekgleegbaaGreat.Sl
/- Cells that stay as they were: what stands last. -/
namespace Go.Proofs.YtdgcdekgleegbaaGreat
open Go.RowKit
theorem last4 {w w1 : World} {B : Nat} {p0 p1 p2 p3 : Addr} {x0 x1 x2 x3 : Value} (H : w1.cell? p0 = some x0 ∧ w1.cell? p1 = some x1 ∧ w1.cell? p2 = some x2 ∧ w1.cell? p3 = some x3 ∧ Below B w w1) : Below B w w1 := H.2.2.2.2
theorem last8 {w w1 : World} {B : Nat} {p0 p1 p2 p3 p4 p5 p6 p7 : Addr} {x0 x1 x2 x3 x4 x5 x6 x7 : Value} (H : w1.cell? p0 = some x0 ∧ w1.cell? p1 = some x1 ∧ w1.cell? p2 = some x2 ∧ w1.cell? p3 = some x3 ∧ w1.cell? p4 = some x4 ∧ w1.cell? p5 = some x5 ∧ w1.cell? p6 = some x6 ∧ w1.cell? p7 = some x7 ∧ Below B w w1) : Below B w w1 := H.2.2.2.2.2.2.2.2
end Go.Proofs.YtdgcdekgleegbaaGreat
/- Rows of one's own, and rows that can be cut. -/
namespace Go.Proofs.YtdgcdekgleegbaaGreat
open Go.RowKit
open Sl (Cl Kd)
/-- A slice whose room is in order. -/
inductive Cap : Value → Prop
  | mk (a : Option Addr) (n c : Nat) (h : n ≤ c) (hm : c ≤ maxLen) (h0 : a = none → c = 0) : Cap (.slice a n c)
theorem ownsRow_below {w w' : World} {B : Nat} {e : TypeId} {s : Nat} {v : Value} {n : Nat} {xs : List Value} (h : w.ownsRow B e s v n xs) (hb : Below w.heap.size w w') : w'.ownsRow B e s v n xs := by
  obtain ⟨h0, h1⟩ := h
  refine ⟨h0, ?_⟩
  rcases h1 with h1 | ⟨g, cap, cur, hv, hB, hg, h2, h3, h4, h5⟩
  · exact .inl h1
  · refine .inr ⟨g, cap, cur, hv, hB, ?_, h2, h3, h4, h5⟩
    have hlt : g < w.heap.size := (Array.getElem?_eq_some_iff.1 hg).1
    rw [hb.block g hlt]; exact hg
theorem ownsRow_cap {w : World} {B : Nat} {e : TypeId} {s : Nat} {v : Value} {n : Nat} {xs : List Value} (h : w.ownsRow B e s v n xs) : Cap v := by
  obtain ⟨_, h1⟩ := h
  rcases h1 with ⟨rfl, _⟩ | ⟨g, cap, cur, rfl, _, _, h2, h3, _⟩
  · exact ⟨none, 0, 0, Nat.le_refl _, Nat.zero_le _, fun _ => rfl⟩
  · exact ⟨_, n, cap, h2, h3, fun h => by cases h⟩
def RowC (w : World) (B : Nat) (v : Value) (l : List Cl) : Prop := w.ownsRow B 32 4 v l.length (l.flatMap cellsC)
def RowK (w : World) (B : Nat) (v : Value) (l : List Kd) : Prop := w.ownsRow B 135 2 v l.length (l.flatMap cellsK)
theorem RowC.below {w w' : World} {B : Nat} {v : Value} {l : List Cl} (h : RowC w B v l) (hb : Below w.heap.size w w') : RowC w' B v l := ownsRow_below h hb
theorem RowK.below {w w' : World} {B : Nat} {v : Value} {l : List Kd} (h : RowK w B v l) (hb : Below w.heap.size w w') : RowK w' B v l := ownsRow_below h hb
theorem RowC.cap {w : World} {B : Nat} {v : Value} {l : List Cl} (h : RowC w B v l) : Cap v := ownsRow_cap h
theorem RowK.cap {w : World} {B : Nat} {v : Value} {l : List Kd} (h : RowK w B v l) : Cap v := ownsRow_cap h
theorem RowC.sl {w : World} {B : Nat} {v : Value} {l : List Cl} (h : RowC w B v l) : SlC w v l := SlC.own h
theorem RowK.sl {w : World} {B : Nat} {v : Value} {l : List Kd} (h : RowK w B v l) : SlK w v l := SlK.own h
theorem ownsRow_base {w : World} {B B' : Nat} {e : TypeId} {s : Nat} {v : Value} {n : Nat} {xs : List Value} (h : w.ownsRow B e s v n xs) (hb : B' ≤ B) : w.ownsRow B' e s v n xs := by
  obtain ⟨h0, h1⟩ := h
  refine ⟨h0, ?_⟩
  rcases h1 with h1 | ⟨g, cap, cur, hv, hB, hg, h2, h3, h4, h5⟩
  · exact .inl h1
  · exact .inr ⟨g, cap, cur, hv, Nat.le_trans hb hB, hg, h2, h3, h4, h5⟩
theorem RowC.base {w : World} {B B' : Nat} {v : Value} {l : List Cl} (h : RowC w B v l) (hb : B' ≤ B) : RowC w B' v l := ownsRow_base h hb
theorem RowK.base {w : World} {B B' : Nat} {v : Value} {l : List Kd} (h : RowK w B v l) (hb : B' ≤ B) : RowK w B' v l := ownsRow_base h hb
theorem RowC.set {w : World} {B : Nat} {v : Value} {l : List Cl} (h : RowC w B v l) {a : Addr} (ha : a.block < B) (u : Value) : RowC (w.setCell a u) B v l := ownsRow_setCell_below h ha u
theorem RowK.set {w : World} {B : Nat} {v : Value} {l : List Kd} (h : RowK w B v l) {a : Addr} (ha : a.block < B) (u : Value) : RowK (w.setCell a u) B v l := ownsRow_setCell_below h ha u
theorem ownsRow_keep {w w' : World} {B B' : Nat} {e : TypeId} {s : Nat} {v : Value} {n : Nat} {xs : List Value} (h : w.ownsRow B e s v n xs) (hlo : ∀ k, v.ownBlock = some k → k < B') (hb : Below B' w w') : w'.ownsRow B e s v n xs := by
  obtain ⟨h0, h1⟩ := h
  refine ⟨h0, ?_⟩
  rcases h1 with h1 | ⟨g, cap, cur, hv, hB, hg, h2, h3, h4, h5⟩
  · exact .inl h1
  · refine .inr ⟨g, cap, cur, hv, hB, ?_, h2, h3, h4, h5⟩
    rw [hb.block g (hlo g (by rw [hv]; rfl))]; exact hg
theorem RowC.keep {w w' : World} {B B' : Nat} {v : Value} {l : List Cl} (h : RowC w B v l) (hlo : ∀ k, v.ownBlock = some k → k < B') (hb : Below B' w w') : RowC w' B v l := ownsRow_keep h hlo hb
theorem RowK.keep {w w' : World} {B B' : Nat} {v : Value} {l : List Kd} (h : RowK w B v l) (hlo : ∀ k, v.ownBlock = some k → k < B') (hb : Below B' w w') : RowK w' B v l := ownsRow_keep h hlo hb
theorem RowC.lo {w : World} {B : Nat} {v : Value} {l : List Cl} (h : RowC w B v l) : ∀ k, v.ownBlock = some k → k < w.heap.size := fun k hk => (World.ownsRow.lt h k hk).2
theorem RowK.lo {w : World} {B : Nat} {v : Value} {l : List Kd} (h : RowK w B v l) : ∀ k, v.ownBlock = some k → k < w.heap.size := fun k hk => (World.ownsRow.lt h k hk).2
theorem last6 {w w1 : World} {B : Nat} {p0 p1 p2 p3 p4 p5 : Addr} {x0 x1 x2 x3 x4 x5 : Value} (H : w1.cell? p0 = some x0 ∧ w1.cell? p1 = some x1 ∧ w1.cell? p2 = some x2 ∧ w1.cell? p3 = some x3 ∧ w1.cell? p4 = some x4 ∧ w1.cell? p5 = some x5 ∧ Below B w w1) : Below B w w1 := H.2.2.2.2.2.2
/-- The answer is a row of the call's own. -/
inductive OwnC (l : List Cl) (w : World) (e : Ending) (w' : World) : Prop
  | mk (v : Value) (he : e = .returned v) (hr : RowC w' w.heap.size v l) (hb : Below w.heap.size w w')
inductive OwnK (l : List Kd) (w : World) (e : Ending) (w' : World) : Prop
  | mk (v : Value) (he : e = .returned v) (hr : RowK w' w.heap.size v l) (hb : Below w.heap.size w w')
theorem add_plain' (b o j : Nat) : (⟨b, o, none⟩ : Addr).add j = ⟨b, o + j, none⟩ := by
  unfold Addr.add; split <;> simp_all
theorem flat_split {α : Type} (f : α → List Value) (s : Nat) (hs : 0 < s) (hf : ∀ x, (f x).length = s) (l : List α) (j : Nat) (u : Value) (h : (l.flatMap f)[j]? = some u) :
    ∃ i r x, l[i]? = some x ∧ r < s ∧ j = i * s + r ∧ (f x)[r]? = some u := by
  have hj : j < l.length * s := by rw [← flat_len f s hf]; exact (List.getElem?_eq_some_iff.1 h).1
  have hi : j / s < l.length := by rw [Nat.div_lt_iff_lt_mul hs]; exact hj
  have hd : j = j / s * s + j % s := by rw [Nat.mul_comm]; exact (Nat.div_add_mod j s).symm
  have hr : j % s < s := Nat.mod_lt _ hs
  refine ⟨j / s, j % s, l[j / s], List.getElem?_eq_getElem hi, hr, hd, ?_⟩
  have := flat_at f s hf l (j / s) (j % s) _ (List.getElem?_eq_getElem hi) hr
  rw [← hd, h] at this
  exact this.symm
theorem SlC.flat {w : World} {b o : Nat} {l : List Cl} (hx : ∀ (j : Nat) x, l[j]? = some x → w.cell? ⟨b, o + j * 4, none⟩ = some (.string (str x.key)) ∧ w.cell? ⟨b, o + j * 4 + 1, none⟩ = some (.string (str x.val)) ∧ w.cell? ⟨b, o + j * 4 + 2, none⟩ = some (.int .u32 x.chain) ∧ w.cell? ⟨b, o + j * 4 + 3, none⟩ = some (.int .u32 x.long)) :
    ∀ j u, (l.flatMap cellsC)[j]? = some u → w.cell? ((⟨b, o, none⟩ : Addr).add j) = some u := by
  intro j u hj
  obtain ⟨i, r, x, hi, hr, rfl, hu⟩ := flat_split cellsC 4 (by decide) cellsC_len l j u hj
  obtain ⟨h0, h1, h2, h3⟩ := hx i x hi
  rw [add_plain', ← Nat.add_assoc]
  match r, hr, hu with
  | 0, _, hu => simp [cellsC] at hu; rw [← hu]; exact h0
  | 1, _, hu => simp [cellsC] at hu; rw [← hu]; exact h1
  | 2, _, hu => simp [cellsC] at hu; rw [← hu]; exact h2
  | 3, _, hu => simp [cellsC] at hu; rw [← hu]; exact h3
theorem SlK.flat {w : World} {b o : Nat} {l : List Kd} (hx : ∀ (j : Nat) x, l[j]? = some x → w.cell? ⟨b, o + j * 2, none⟩ = some (.string (str x.key)) ∧ w.cell? ⟨b, o + j * 2 + 1, none⟩ = some (.int .u32 x.page)) :
    ∀ j u, (l.flatMap cellsK)[j]? = some u → w.cell? ((⟨b, o, none⟩ : Addr).add j) = some u := by
  intro j u hj
  obtain ⟨i, r, x, hi, hr, rfl, hu⟩ := flat_split cellsK 2 (by decide) cellsK_len l j u hj
  obtain ⟨h0, h1⟩ := hx i x hi
  rw [add_plain', ← Nat.add_assoc]
  match r, hr, hu with
  | 0, _, hu => simp [cellsK] at hu; rw [← hu]; exact h0
  | 1, _, hu => simp [cellsK] at hu; rw [← hu]; exact h1
theorem flat_oneC (l : List Cl) : ∀ u ∈ l.flatMap cellsC, u.oneCell' = true := by
  intro u hu
  obtain ⟨x, _, h⟩ := List.mem_flatMap.1 hu
  exact cellsC_one x u h
theorem flat_oneK (l : List Kd) : ∀ u ∈ l.flatMap cellsK, u.oneCell' = true := by
  intro u hu
  obtain ⟨x, _, h⟩ := List.mem_flatMap.1 hu
  exact cellsK_one x u h
end Go.Proofs.YtdgcdekgleegbaaGreat
/- Nodes as values, the document's and the program's. -/
namespace Go.Proofs.YtdgcdekgleegbaaGreat.Sl
structure Nd where
  leaf : Bool
  cs : List Cl
  ks : List Kd
structure Rn where
  leaf : Bool
  l : List Cl
/-- The first cell's key. -/
def fkey {α : Type} (S : Sh α) : List α → List UInt8
  | [] => []
  | x :: _ => S.key x
def setK (k : List UInt8) : List Kd → List Kd
  | [] => []
  | x :: t => ⟨k, x.page⟩ :: t
def setC (k : List UInt8) : List Cl → List Cl
  | [] => []
  | x :: t => ⟨k, x.val, x.chain, x.long⟩ :: t
theorem setK_len (k : List UInt8) (l : List Kd) : (setK k l).length = l.length := by cases l <;> rfl
theorem setC_len (k : List UInt8) (l : List Cl) : (setC k l).length = l.length := by cases l <;> rfl
end Go.Proofs.YtdgcdekgleegbaaGreat.Sl
namespace Go.Proofs.YtdgcdekgleegbaaGreat
open Go.RowKit
open Sl (Cl Kd Nd Rn)
def ndV (b : Bool) (vc vk : Value) : Value := .agg #[.bool b, vc, vk]
def rnV (b : Bool) (vc : Value) : Value := .agg #[.bool b, vc]
inductive NdV (w : World) (v : Value) (n : Nd) : Prop
  | mk (vc vk : Value) (hv : v = ndV n.leaf vc vk) (hc : SlC w vc n.cs) (hcc : Cap vc) (hk : SlK w vk n.ks) (hkk : Cap vk)
inductive RnV (w : World) (v : Value) (n : Rn) : Prop
  | mk (vc : Value) (hv : v = rnV n.leaf vc) (hc : SlC w vc n.l) (hcc : Cap vc)
theorem NdV.below {w w' : World} {v : Value} {n : Nd} (h : NdV w v n) (hb : Below w.heap.size w w') : NdV w' v n := by
  obtain ⟨vc, vk, hv, hc, hcc, hk, hkk⟩ := h
  exact ⟨vc, vk, hv, hc.below hb, hcc, hk.below hb, hkk⟩
theorem RnV.below {w w' : World} {v : Value} {n : Rn} (h : RnV w v n) (hb : Below w.heap.size w w') : RnV w' v n := by
  obtain ⟨vc, hv, hc, hcc⟩ := h
  exact ⟨vc, hv, hc.below hb, hcc⟩
theorem cap_nil : Cap (.slice none 0 0) := ⟨none, 0, 0, Nat.le_refl _, Nat.zero_le _, fun _ => rfl⟩
theorem leaf_any (v : Value) (hv : Cap v) (w : World) : Calls Tryz.prog 98 #[v] w fun e w' => e = .returned (ndV true v (.slice none 0 0)) ∧ Below w.heap.size w w' := by
  obtain ⟨a, n, c, _, _, _⟩ := hv
  go_enter Tryz.func98, Tryz.ntmps98
  go_wp2
  refine bodyPost_ret_by (v := ndV true (.slice a n c) (.slice none 0 0)) ?_ rfl ⟨rfl, ?_⟩
  · simp [ndV, results, Tryz.results98, go_sem]
  · exact ((Below.refl _ _).alloc (Nat.le_refl _) _)
theorem branch_any (v : Value) (hv : Cap v) (w : World) : Calls Tryz.prog 115 #[v] w fun e w' => e = .returned (ndV false (.slice none 0 0) v) ∧ Below w.heap.size w w' := by
  obtain ⟨a, n, c, _, _, _⟩ := hv
  go_enter Tryz.func115, Tryz.ntmps115
  go_wp2
  refine bodyPost_ret_by (v := ndV false (.slice none 0 0) (.slice a n c)) ?_ rfl ⟨rfl, ?_⟩
  · simp [ndV, results, Tryz.results115, go_sem]
  · exact ((Below.refl _ _).alloc (Nat.le_refl _) _)
end Go.Proofs.YtdgcdekgleegbaaGreat
/- A map from pages to values, kept as a function; what stays when a box and a map are written. -/
namespace Go.Proofs.YtdgcdekgleegbaaGreat
open Go.RowKit Go.Maps
open Sl (Cl Kd Nd Rn)
/-- Of an older world all blocks stay but two. -/
structure Two (p b : Nat) (w w' : World) : Prop where
  os : w'.os = w.os
  tape : w'.tape = w.tape
  output : w'.output = w.output
  size : w.heap.size ≤ w'.heap.size
  block : ∀ k, k < w.heap.size → k ≠ p → k ≠ b → w'.heap[k]? = w.heap[k]?
theorem Two.refl (p b : Nat) (w : World) : Two p b w w := ⟨rfl, rfl, rfl, Nat.le_refl _, fun _ _ _ _ => rfl⟩
theorem Two.trans {p b : Nat} {w w' w'' : World} (h : Two p b w w') (k : Two p b w' w'') : Two p b w w'' :=
  ⟨k.os.trans h.os, k.tape.trans h.tape, k.output.trans h.output, Nat.le_trans h.size k.size, fun q hq h1 h2 => (k.block q (Nat.lt_of_lt_of_le hq h.size) h1 h2).trans (h.block q hq h1 h2)⟩
theorem Two.of {p b : Nat} {w w' : World} (h : Below w.heap.size w w') : Two p b w w' := ⟨h.os, h.tape, h.output, h.size, fun q hq _ _ => h.block q hq⟩
theorem Two.turned {p b : Nat} {w w' : World} (h : w.mapTurned w' b) : Two p b w w' := by
  obtain ⟨h1, h2, h3, h4, h5⟩ := h.grown
  exact ⟨h1, h2, h3, h4, fun q hq _ hb => h5 q hq (fun e => hb (Option.some.inj e))⟩
theorem Two.set {p b : Nat} (w : World) (i : Nat) (x : Value) : Two p b w (w.setCell ⟨p, i, none⟩ x) :=
  ⟨((Below.refl 0 w).setCell (Nat.zero_le _) x).os, rfl, ((Below.refl 0 w).setCell (Nat.zero_le _) x).output, by simp, fun q _ hp _ => RowKit.Below.heap_setCell w ⟨p, i, none⟩ x q hp⟩
theorem Two.below {p b B : Nat} {w w' : World} (h : Two p b w w') (hp : B ≤ p) (hb : B ≤ b) (hB : B ≤ w.heap.size) : Below B w w' :=
  ⟨h.os, h.tape, h.output, h.size, fun q hq => h.block q (by omega) (by omega) (by omega)⟩
theorem Two.cell {p b q i : Nat} {w w' : World} {x : Value} (h : Two p b w w') (hp : q ≠ p) (hb : q ≠ b) (hx : w.cell? ⟨q, i, none⟩ = some x) : w'.cell? ⟨q, i, none⟩ = some x := by
  have hlt := World.block_lt_of_cell? _ _ hx
  have := h.block q hlt hp hb
  simp only [World.cell?] at hx ⊢
  rw [this]; exact hx
theorem Two.froz {p b q i : Nat} {w w' : World} (h : Two p b w w') (hp : q ≠ p) (hb : q ≠ b) (hlt : q < w.heap.size) : w'.frozen? ⟨q, i, none⟩ = w.frozen? ⟨q, i, none⟩ := by
  have := h.block q hlt hp hb
  simp only [World.frozen?]
  rw [this]
theorem ownsRow_two {p b B : Nat} {w w' : World} {e : TypeId} {s : Nat} {v : Value} {n : Nat} {xs : List Value} (h : w.ownsRow B e s v n xs) (ht : Two p b w w') (hp : p < B) (hb : b < B) : w'.ownsRow B e s v n xs := by
  obtain ⟨h0, h1⟩ := h
  refine ⟨h0, ?_⟩
  rcases h1 with h1 | ⟨g, cap, cur, hv, hB, hg, h2, h3, h4, h5⟩
  · exact .inl h1
  · refine .inr ⟨g, cap, cur, hv, hB, ?_, h2, h3, h4, h5⟩
    have hlt : g < w.heap.size := (Array.getElem?_eq_some_iff.1 hg).1
    rw [ht.block g hlt (by omega) (by omega)]; exact hg
/-- A node whose rows are its own. -/
def NdO (w : World) (B : Nat) (v : Value) (n : Nd) : Prop := ∃ vc vk, v = ndV n.leaf vc vk ∧ RowC w B vc n.cs ∧ RowK w B vk n.ks
theorem NdO.nd {w : World} {B : Nat} {v : Value} {n : Nd} (h : NdO w B v n) : NdV w v n := by
  obtain ⟨vc, vk, hv, hc, hk⟩ := h
  exact ⟨vc, vk, hv, hc.sl, hc.cap, hk.sl, hk.cap⟩
theorem NdO.two {p b B : Nat} {w w' : World} {v : Value} {n : Nd} (h : NdO w B v n) (ht : Two p b w w') (hp : p < B) (hb : b < B) : NdO w' B v n := by
  obtain ⟨vc, vk, hv, hc, hk⟩ := h
  exact ⟨vc, vk, hv, ownsRow_two hc ht hp hb, ownsRow_two hk ht hp hb⟩
theorem NdO.base {B B' : Nat} {w : World} {v : Value} {n : Nd} (h : NdO w B v n) (hB : B' ≤ B) : NdO w B' v n := by
  obtain ⟨vc, vk, hv, hc, hk⟩ := h
  exact ⟨vc, vk, hv, hc.base hB, hk.base hB⟩
theorem NdO.below {B : Nat} {w w' : World} {v : Value} {n : Nd} (h : NdO w B v n) (hb : Below w.heap.size w w') : NdO w' B v n := by
  obtain ⟨vc, vk, hv, hc, hk⟩ := h
  exact ⟨vc, vk, hv, hc.below hb, hk.below hb⟩
def heldR : Value → Option (DataW Value × List MemPlace) := fun v => some (.held v, [])
def zN : Value := .agg #[.bool false, .slice none 0 0, .slice none 0 0]
def upd {α : Type} (f : Nat → Option α) (k : Nat) (x : Option α) : Nat → Option α := fun j => if j = k then x else f j
theorem upd_same {α : Type} (f : Nat → Option α) (k : Nat) (x : Option α) : upd f k x k = x := if_pos rfl
theorem upd_other {α : Type} (f : Nat → Option α) (k : Nat) (x : Option α) {j : Nat} (h : j ≠ k) : upd f k x j = f j := if_neg h
def MapN (w : World) (b n : Nat) (f : Nat → Option Value) : Prop :=
  ∃ D : DataW Value, w.ownsMap Tryz.prog 28 heldR b n D ∧ ∀ k : Nat, k < 4294967296 → Maps.has D (.int .u32 k) = (f k).isSome ∧ D.atKey (.int .u32 k) (.held zN) = .held ((f k).getD zN)
theorem wf_u32 {k : Nat} (h : k < 4294967296) : (Lit.int .u32 k).wf = true := by
  simp [Lit.wf, IntKind.min, IntKind.max, IntKind.signed, IntKind.bits]; omega
theorem keyU {k : Nat} (h : k < 4294967296) : keyOf Tryz.prog 28 (.int .u32 k) = some (.int .u32 k) := keyOf_int_mk Tryz.underlying28 (wf_u32 h)
theorem lawU : Keyed Tryz.prog 28 := int_keyed Tryz.underlying28
theorem zeroN (w : World) : (zeroValue 71).run Tryz.prog w = .ok zN w := by kernel_rfl
theorem MapN.made (w : World) : MapN (w.alloc (.map #[] 0)) w.heap.size 0 (fun _ => none) := ⟨.map [], World.ownsMap_made _ _ _ _, fun k hk => ⟨rfl, rfl⟩⟩
theorem MapN.look {w : World} {b n : Nat} {f : Nat → Option Value} (h : MapN w b n f) {k : Nat} (hk : k < 4294967296) : (Instr.lookup 93 (.map (some b)) (.int .u32 k) false).run Tryz.prog w = .ok ((f k).getD zN) w := by
  obtain ⟨D, ho, hf⟩ := h
  obtain ⟨v, ps, hr, hv⟩ := ho.lookup lawU Tryz.underlying93 (zeroN w) (zd := .held zN) (zp := []) rfl (keyU hk)
  rw [(hf k hk).2] at hv
  simp [heldR] at hv
  rw [hr, hv.1]
theorem MapN.lookOk {w : World} {b n : Nat} {f : Nat → Option Value} (h : MapN w b n f) {k : Nat} (hk : k < 4294967296) : (Instr.lookup 93 (.map (some b)) (.int .u32 k) true).run Tryz.prog w = .ok (.tuple #[(f k).getD zN, .bool (f k).isSome]) w := by
  obtain ⟨D, ho, hf⟩ := h
  obtain ⟨v, ps, hr, hv⟩ := ho.look_ok lawU Tryz.underlying93 (zeroN w) (zd := .held zN) (zp := []) rfl (keyU hk)
  rw [(hf k hk).2] at hv
  simp [heldR] at hv
  rw [hr, hv.1, (hf k hk).1]
theorem lit_ne {j k : Nat} (h : j ≠ k) : Lit.int .u32 (j : Int) ≠ Lit.int .u32 (k : Int) := by
  intro e
  injection e with _ e
  exact h (by omega)
theorem MapN.store {w : World} {b n : Nat} {f : Nat → Option Value} (h : MapN w b n f) {k : Nat} (hk : k < 4294967296) (hn : n < maxLen) (v : Value) :
    ∃ w', (Instr.mapUpdate 93 (.map (some b)) (.int .u32 k) v).run Tryz.prog w = .ok () w' ∧ MapN w' b (n + 1) (upd f k (some v)) ∧ w.mapTurned w' b := by
  obtain ⟨D, ho, hf⟩ := h
  obtain ⟨w', hr, h1, h2⟩ := ho.store lawU Tryz.underlying93 hn (val := v) (keyU hk) (d := .held v) (ps := []) rfl
  refine ⟨w', hr, ⟨_, h1, fun j hj => ?_⟩, h2⟩
  by_cases hjk : j = k
  · subst hjk
    rw [upd_same, Maps.has_put_same ho.isMap (lawU.key (keyU hk)), Maps.atKey_put_same ho.isMap (lawU.key (keyU hk))]
    exact ⟨rfl, rfl⟩
  · rw [upd_other _ _ _ hjk, Maps.has_put_other (lit_ne hjk), Maps.atKey_put_other (lit_ne hjk)]
    exact hf j hj
theorem MapN.drop {w : World} {b n : Nat} {f : Nat → Option Value} (h : MapN w b n f) {k : Nat} (hk : k < 4294967296) (ty : TypeId) :
    ∃ w', (Builtin.delete_ #[93, 28] ty #[.map (some b), .int .u32 k]).run Tryz.prog w = .ok (.tuple #[]) w' ∧ MapN w' b n (upd f k none) ∧ w.mapTurned w' b := by
  obtain ⟨D, ho, hf⟩ := h
  obtain ⟨w', hr, h1, h2⟩ := ho.drop lawU Tryz.underlying93 (keyU hk) ty
  refine ⟨w', hr, ⟨_, h1, fun j hj => ?_⟩, h2⟩
  by_cases hjk : j = k
  · subst hjk
    rw [upd_same, Maps.has_del_same, Maps.atKey_del_same]
    exact ⟨rfl, rfl⟩
  · rw [upd_other _ _ _ hjk, Maps.has_del_other (lit_ne hjk), Maps.atKey_del_other (lit_ne hjk)]
    exact hf j hj
theorem MapN.lt {w : World} {b n : Nat} {f : Nat → Option Value} (h : MapN w b n f) : b < w.heap.size := by
  obtain ⟨D, ho, _⟩ := h
  exact ho.lt
theorem MapN.kept {w w' : World} {b n : Nat} {f : Nat → Option Value} (h : MapN w b n f) (hb : w'.heap[b]? = w.heap[b]?) : MapN w' b n f := by
  obtain ⟨D, ⟨es, clock, h0, h1⟩, hf⟩ := h
  exact ⟨D, ⟨es, clock, hb.trans h0, h1⟩, hf⟩
/-- A space in memory: its box p, its map b. -/
structure Mem (w : World) (p b B n made frozen : Nat) (F : Nat → Option Nd) : Prop where
  c0 : w.cell? ⟨p, 0, none⟩ = some (.map (some b))
  c1 : w.cell? ⟨p, 1, none⟩ = some (.int .u32 made)
  c2 : w.cell? ⟨p, 2, none⟩ = some (.int .u32 frozen)
  f0 : w.frozen? ⟨p, 0, none⟩ = false
  f1 : w.frozen? ⟨p, 1, none⟩ = false
  f2 : w.frozen? ⟨p, 2, none⟩ = false
  map : ∃ f, MapN w b n f ∧ (∀ k, k < 4294967296 → F k = none → f k = none) ∧ ∀ k nd, k < 4294967296 → F k = some nd → ∃ v, f k = some v ∧ NdO w B v nd
  pB : p < B
  bB : b < B
  ne : p ≠ b
theorem Mem.p_lt {w : World} {p b B n made frozen : Nat} {F : Nat → Option Nd} (h : Mem w p b B n made frozen F) : p < w.heap.size := World.block_lt_of_cell? _ _ h.c0
theorem Mem.b_lt {w : World} {p b B n made frozen : Nat} {F : Nat → Option Nd} (h : Mem w p b B n made frozen F) : b < w.heap.size := by
  obtain ⟨f, hm, _⟩ := h.map
  exact hm.lt
theorem Mem.below {w w' : World} {p b B n made frozen : Nat} {F : Nat → Option Nd} (h : Mem w p b B n made frozen F) (hb : Below w.heap.size w w') : Mem w' p b B n made frozen F := by
  have hp := h.p_lt
  have hbl := h.b_lt
  obtain ⟨f, hm, h1, h2⟩ := h.map
  refine ⟨(hb.cell (p := ⟨p, 0, none⟩) hp).trans h.c0, (hb.cell (p := ⟨p, 1, none⟩) hp).trans h.c1, (hb.cell (p := ⟨p, 2, none⟩) hp).trans h.c2, (hb.frozen (p := ⟨p, 0, none⟩) hp).trans h.f0, (hb.frozen (p := ⟨p, 1, none⟩) hp).trans h.f1, (hb.frozen (p := ⟨p, 2, none⟩) hp).trans h.f2, ⟨f, hm.kept (hb.block b hbl), h1, fun k nd hk hF => ?_⟩, h.pB, h.bB, h.ne⟩
  obtain ⟨v, hv, hn⟩ := h2 k nd hk hF
  exact ⟨v, hv, hn.below hb⟩
end Go.Proofs.YtdgcdekgleegbaaGreat
