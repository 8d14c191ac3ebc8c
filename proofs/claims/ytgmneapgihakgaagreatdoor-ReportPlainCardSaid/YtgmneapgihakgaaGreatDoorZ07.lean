/- Texts of one seat, merged. -/
import Derived.Test.YtgmneapgihakgaaGreatDoorZ06
import Derived.OwnWalk
import Derived.Test.YtgmneapgihakgaaGreatDoorZ03
import Derived.Deep.AppendLies
import Derived.Maps.AppendAt
import Derived.Test.YtgmneapgihakgaaGreatDoorZ05
import Derived.Shelf.Spec.SlicesInsert
import Derived.Shelf.RegionOpenPlain
set_option maxRecDepth 100000
set_option maxHeartbeats 4000000
set_option linter.unusedVariables false
/- Rows of cells that the law itself makes: a leaf's cells as a branch's, and back. -/
namespace Go.Proofs.YtgmneapgihakgaaGreatDoor
open Go.RowKit
open Sl (Cl Kd)
def toK (c : Cl) : Kd := ⟨c.key, c.chain⟩
def toC (k : Kd) : Cl := ⟨k.key, [], k.page, 0⟩
def cellsC (c : Cl) : List Value := [.string (str c.key), .string (str c.val), .int .u32 c.chain, .int .u32 c.long]
def cellsK (k : Kd) : List Value := [.string (str k.key), .int .u32 k.page]
theorem flat_at {α : Type} (f : α → List Value) (s : Nat) (hf : ∀ x, (f x).length = s) : ∀ (l : List α) (j i : Nat) (p : α), l[j]? = some p → i < s → (l.flatMap f)[j * s + i]? = (f p)[i]?
  | [], j, i, p, h, _ => by simp at h
  | q :: l, 0, i, p, h, hi => by
    simp at h
    subst h
    rw [List.flatMap_cons, List.getElem?_append_left (by rw [hf]; omega)]
    simp
  | q :: l, j + 1, i, p, h, hi => by
    rw [List.flatMap_cons, List.getElem?_append_right (by rw [hf, Nat.add_mul]; omega)]
    rw [show (j + 1) * s + i - (f q).length = j * s + i by rw [hf, Nat.add_mul]; omega]
    exact flat_at f s hf l j i p (by simpa using h) hi
theorem SlC.nil (w : World) : SlC w (.slice none 0 0) [] := ⟨none, 0, 0, 0, rfl, .inl rfl, fun j p h => by simp at h⟩
theorem SlK.nil (w : World) : SlK w (.slice none 0 0) [] := ⟨none, 0, 0, 0, rfl, .inl rfl, fun j p h => by simp at h⟩
theorem flat_len {α : Type} (f : α → List Value) (s : Nat) (hf : ∀ x, (f x).length = s) (l : List α) : (l.flatMap f).length = l.length * s := by
  induction l with
  | nil => simp
  | cons p l ih => rw [List.flatMap_cons, List.length_append, ih, hf, List.length_cons, Nat.add_mul]; omega
theorem cellsC_len (c : Cl) : (cellsC c).length = 4 := rfl
theorem cellsK_len (c : Kd) : (cellsK c).length = 2 := rfl
theorem SlC.own {w : World} {B : Nat} {e : TypeId} {v : Value} {l : List Cl} (h : w.ownsRow B e 4 v l.length (l.flatMap cellsC)) : SlC w v l := by
  have hw := h
  obtain ⟨_, h1⟩ := h
  rcases h1 with ⟨rfl, h0⟩ | ⟨g, cap, cur, rfl, _⟩
  · obtain rfl : l = [] := List.length_eq_zero_iff.1 h0
    exact SlC.nil w
  · refine ⟨_, g, 0, cap, rfl, .inr rfl, fun j p hj => ?_⟩
    have hlt := (List.getElem?_eq_some_iff.1 hj).1
    have c := fun i (hi : i < 4) => (hw.cellAt (j * 4 + i) (by omega)).trans (flat_at cellsC 4 cellsC_len l j i p hj hi)
    refine ⟨?_, ?_, ?_, ?_⟩
    · have := c 0 (by omega); rw [Nat.zero_add]; exact this
    · have := c 1 (by omega); rw [Nat.zero_add]; exact this
    · have := c 2 (by omega); rw [Nat.zero_add]; exact this
    · have := c 3 (by omega); rw [Nat.zero_add]; exact this
theorem SlK.own {w : World} {B : Nat} {e : TypeId} {v : Value} {l : List Kd} (h : w.ownsRow B e 2 v l.length (l.flatMap cellsK)) : SlK w v l := by
  have hw := h
  obtain ⟨_, h1⟩ := h
  rcases h1 with ⟨rfl, h0⟩ | ⟨g, cap, cur, rfl, _⟩
  · obtain rfl : l = [] := List.length_eq_zero_iff.1 h0
    exact SlK.nil w
  · refine ⟨_, g, 0, cap, rfl, .inr rfl, fun j p hj => ?_⟩
    have hlt := (List.getElem?_eq_some_iff.1 hj).1
    have c := fun i (hi : i < 2) => (hw.cellAt (j * 2 + i) (by omega)).trans (flat_at cellsK 2 cellsK_len l j i p hj hi)
    refine ⟨?_, ?_⟩
    · have := c 0 (by omega); rw [Nat.zero_add]; exact this
    · have := c 1 (by omega); rw [Nat.zero_add]; exact this
theorem cellsK_new (w : World) (k : Kd) (T : TypeId) : ∀ (j : Nat) u, (cellsK k)[j]? = some u →
    (w.alloc (.cells #[.string (str k.key), .int .u32 k.page] T)).cell? ((⟨w.heap.size, 0, none⟩ : Addr).add j) = some u := by
  intro j u hj
  match j, hj with
  | 0, hj => simp [cellsK] at hj; subst hj; simp [Addr.add]
  | 1, hj => simp [cellsK] at hj; subst hj; simp [Addr.add]
  | (j + 2), hj => simp [cellsK] at hj
theorem cellsC_new (w : World) (c : Cl) (T : TypeId) : ∀ (j : Nat) u, (cellsC c)[j]? = some u →
    (w.alloc (.cells #[.string (str c.key), .string (str c.val), .int .u32 c.chain, .int .u32 c.long] T)).cell? ((⟨w.heap.size, 0, none⟩ : Addr).add j) = some u := by
  intro j u hj
  match j, hj with
  | 0, hj => simp [cellsC] at hj; subst hj; simp [Addr.add]
  | 1, hj => simp [cellsC] at hj; subst hj; simp [Addr.add]
  | 2, hj => simp [cellsC] at hj; subst hj; simp [Addr.add]
  | 3, hj => simp [cellsC] at hj; subst hj; simp [Addr.add]
  | (j + 4), hj => simp [cellsC] at hj
theorem cellsK_one (k : Kd) : ∀ u ∈ cellsK k, u.oneCell' = true := by
  intro u hu
  simp [cellsK] at hu
  rcases hu with rfl | rfl <;> rfl
theorem cellsC_one (c : Cl) : ∀ u ∈ cellsC c, u.oneCell' = true := by
  intro u hu
  simp [cellsC] at hu
  rcases hu with rfl | rfl | rfl | rfl <;> rfl
/-- A row that was made. -/
def MadeK (w : World) (l : List Kd) (e : Ending) (w' : World) : Prop := ∃ v, e = .returned v ∧ SlK w' v l ∧ Below w.heap.size w w'
def MadeC (w : World) (l : List Cl) (e : Ending) (w' : World) : Prop := ∃ v, e = .returned v ∧ SlC w' v l ∧ Below w.heap.size w w'
theorem map_take_snoc {α β : Type} (f : α → β) (l : List α) (k : Nat) (x : α) (h : l[k]? = some x) : (l.take (k + 1)).map f = (l.take k).map f ++ [f x] := by
  obtain ⟨hk, he⟩ := List.getElem?_eq_some_iff.1 h
  rw [List.take_succ_eq_append_getElem hk, he, List.map_append]; rfl
end Go.Proofs.YtgmneapgihakgaaGreatDoor
/- Where a row of cells is cut in two. -/
namespace Go.Proofs.YtgmneapgihakgaaGreatDoor.Sl
variable {α β : Type}
def dif (S : Sh α) (l : List α) (i : Nat) : Nat := ((2 * sum S (l.take i) : Nat) - (sum S l : Nat) : Int).natAbs
def best (d : Nat → Nat) : Nat → Nat × Nat
  | 0 => (0, 0)
  | 1 => (1, d 1)
  | k + 2 => if d (k + 2) < (best d (k + 1)).2 then (k + 2, d (k + 2)) else best d (k + 1)
theorem best_bd (d : Nat → Nat) : ∀ k, 1 ≤ k → 1 ≤ (best d k).1 ∧ (best d k).1 ≤ k
  | 0, h => absurd h (by decide)
  | 1, _ => ⟨Nat.le_refl _, Nat.le_refl _⟩
  | k + 2, _ => by
    unfold best
    have ih := best_bd d (k + 1) (Nat.succ_le_succ (Nat.zero_le _))
    split
    · exact ⟨Nat.succ_le_succ (Nat.zero_le _), Nat.le_refl _⟩
    · exact ⟨ih.1, Nat.le_succ_of_le ih.2⟩
theorem best_one (d : Nat → Nat) : best d 1 = (1, d 1) := rfl
theorem best_less (d : Nat → Nat) (k : Nat) (hk : 1 ≤ k) (h : d (k + 1) < (best d k).2) : best d (k + 1) = (k + 1, d (k + 1)) := by
  obtain ⟨k, rfl⟩ : ∃ j, k = j + 1 := ⟨k - 1, by omega⟩
  show (if _ then _ else _) = _
  rw [if_pos h]
theorem best_keep (d : Nat → Nat) (k : Nat) (hk : 1 ≤ k) (h : ¬ d (k + 1) < (best d k).2) : best d (k + 1) = best d k := by
  obtain ⟨k, rfl⟩ : ∃ j, k = j + 1 := ⟨k - 1, by omega⟩
  show (if _ then _ else _) = _
  rw [if_neg h]
/-- The two numbers that the walk keeps: behind j cuts looked at. -/
def st (S : Sh α) (l : List α) (j : Nat) : Nat × Nat := if j = 0 then (l.length, 0) else best (dif S l) j
theorem st_zero (S : Sh α) (l : List α) : st S l 0 = (l.length, 0) := rfl
theorem st_first (S : Sh α) (l : List α) : st S l 1 = (1, dif S l 1) := rfl
theorem st_less (S : Sh α) (l : List α) (j : Nat) (hj : j ≠ 0) (h : dif S l (j + 1) < (st S l j).2) : st S l (j + 1) = (j + 1, dif S l (j + 1)) := by
  unfold st at h ⊢
  rw [if_neg hj] at h
  rw [if_neg (Nat.succ_ne_zero j)]
  exact best_less _ j (by omega) h
theorem st_keep (S : Sh α) (l : List α) (j : Nat) (hj : j ≠ 0) (h : ¬ dif S l (j + 1) < (st S l j).2) : st S l (j + 1) = st S l j := by
  unfold st at h ⊢
  rw [if_neg hj] at h
  rw [if_neg (Nat.succ_ne_zero j), if_neg hj]
  exact best_keep _ j (by omega) h
def cutAt (S : Sh α) (l : List α) : Nat := if l.length < 2 then l.length else (best (dif S l) (l.length - 1)).1
theorem cutAt_le (S : Sh α) (l : List α) : cutAt S l ≤ l.length := by
  unfold cutAt
  split
  · exact Nat.le_refl _
  · have := (best_bd (dif S l) (l.length - 1) (by omega)).2; omega
theorem cutAt_pos (S : Sh α) (l : List α) (h : 2 ≤ l.length) : 1 ≤ cutAt S l ∧ cutAt S l < l.length := by
  unfold cutAt
  rw [if_neg (by omega)]
  have := best_bd (dif S l) (l.length - 1) (by omega)
  omega
theorem cutAt_st (S : Sh α) (l : List α) : cutAt S l = (st S l (l.length - 1)).1 := by
  unfold cutAt st
  by_cases h : l.length < 2
  · rw [if_pos h, if_pos (by omega)]
  · rw [if_neg h, if_neg (by omega)]
theorem sum_app (S : Sh α) (l m : List α) : sum S (l ++ m) = sum S l + sum S m := by
  unfold sum; rw [List.map_append, List.sum_append]
theorem sum_cut (S : Sh α) (l : List α) (i : Nat) : sum S (l.take i) + sum S (l.drop i) = sum S l := by
  rw [← sum_app, List.take_append_drop]
end Go.Proofs.YtgmneapgihakgaaGreatDoor.Sl
/- Cells that stay as they were: what stands last. -/
namespace Go.Proofs.YtgmneapgihakgaaGreatDoor
open Go.RowKit
theorem last4 {w w1 : World} {B : Nat} {p0 p1 p2 p3 : Addr} {x0 x1 x2 x3 : Value} (H : w1.cell? p0 = some x0 ∧ w1.cell? p1 = some x1 ∧ w1.cell? p2 = some x2 ∧ w1.cell? p3 = some x3 ∧ Below B w w1) : Below B w w1 := H.2.2.2.2
theorem last8 {w w1 : World} {B : Nat} {p0 p1 p2 p3 p4 p5 p6 p7 : Addr} {x0 x1 x2 x3 x4 x5 x6 x7 : Value} (H : w1.cell? p0 = some x0 ∧ w1.cell? p1 = some x1 ∧ w1.cell? p2 = some x2 ∧ w1.cell? p3 = some x3 ∧ w1.cell? p4 = some x4 ∧ w1.cell? p5 = some x5 ∧ w1.cell? p6 = some x6 ∧ w1.cell? p7 = some x7 ∧ Below B w w1) : Below B w w1 := H.2.2.2.2.2.2.2.2
end Go.Proofs.YtgmneapgihakgaaGreatDoor
/- Rows of one's own, and rows that can be cut. -/
namespace Go.Proofs.YtgmneapgihakgaaGreatDoor
open Go.RowKit
open Sl (Cl Kd)
/-- A slice whose room is in order. -/
inductive Cap : Value → Prop
  | mk (a : Option Addr) (n c : Nat) (h : n ≤ c) (hm : c ≤ maxLen) (h0 : a = none → c = 0) : Cap (.slice a n c)
theorem ownsRow_below {w w' : World} {B : Nat} {e : TypeId} {s : Nat} {v : Value} {n : Nat} {xs : List Value} (h : w.ownsRow B e s v n xs) (hb : Below w.heap.size w w') : w'.ownsRow B e s v n xs := by
  obtain ⟨h0, h1⟩ := h
  refine ⟨h0, ?_⟩
  rcases h1 with h1 | ⟨g, cap, cur, hv, hB, hg, h2, h3, h4, h5⟩
  · exact .inl h1
  · refine .inr ⟨g, cap, cur, hv, hB, ?_, h2, h3, h4, h5⟩
    have hlt : g < w.heap.size := (Array.getElem?_eq_some_iff.1 hg).1
    rw [hb.block g hlt]; exact hg
theorem ownsRow_cap {w : World} {B : Nat} {e : TypeId} {s : Nat} {v : Value} {n : Nat} {xs : List Value} (h : w.ownsRow B e s v n xs) : Cap v := by
  obtain ⟨_, h1⟩ := h
  rcases h1 with ⟨rfl, _⟩ | ⟨g, cap, cur, rfl, _, _, h2, h3, _⟩
  · exact ⟨none, 0, 0, Nat.le_refl _, Nat.zero_le _, fun _ => rfl⟩
  · exact ⟨_, n, cap, h2, h3, fun h => by cases h⟩
theorem ownsRow_base {w : World} {B B' : Nat} {e : TypeId} {s : Nat} {v : Value} {n : Nat} {xs : List Value} (h : w.ownsRow B e s v n xs) (hb : B' ≤ B) : w.ownsRow B' e s v n xs := by
  obtain ⟨h0, h1⟩ := h
  refine ⟨h0, ?_⟩
  rcases h1 with h1 | ⟨g, cap, cur, hv, hB, hg, h2, h3, h4, h5⟩
  · exact .inl h1
  · exact .inr ⟨g, cap, cur, hv, Nat.le_trans hb hB, hg, h2, h3, h4, h5⟩
theorem ownsRow_keep {w w' : World} {B B' : Nat} {e : TypeId} {s : Nat} {v : Value} {n : Nat} {xs : List Value} (h : w.ownsRow B e s v n xs) (hlo : ∀ k, v.ownBlock = some k → k < B') (hb : Below B' w w') : w'.ownsRow B e s v n xs := by
  obtain ⟨h0, h1⟩ := h
  refine ⟨h0, ?_⟩
  rcases h1 with h1 | ⟨g, cap, cur, hv, hB, hg, h2, h3, h4, h5⟩
  · exact .inl h1
  · refine .inr ⟨g, cap, cur, hv, hB, ?_, h2, h3, h4, h5⟩
    rw [hb.block g (hlo g (by rw [hv]; rfl))]; exact hg
theorem last6 {w w1 : World} {B : Nat} {p0 p1 p2 p3 p4 p5 : Addr} {x0 x1 x2 x3 x4 x5 : Value} (H : w1.cell? p0 = some x0 ∧ w1.cell? p1 = some x1 ∧ w1.cell? p2 = some x2 ∧ w1.cell? p3 = some x3 ∧ w1.cell? p4 = some x4 ∧ w1.cell? p5 = some x5 ∧ Below B w w1) : Below B w w1 := H.2.2.2.2.2.2
theorem add_plain' (b o j : Nat) : (⟨b, o, none⟩ : Addr).add j = ⟨b, o + j, none⟩ := by
  unfold Addr.add; split <;> simp_all
theorem flat_split {α : Type} (f : α → List Value) (s : Nat) (hs : 0 < s) (hf : ∀ x, (f x).length = s) (l : List α) (j : Nat) (u : Value) (h : (l.flatMap f)[j]? = some u) :
    ∃ i r x, l[i]? = some x ∧ r < s ∧ j = i * s + r ∧ (f x)[r]? = some u := by
  have hj : j < l.length * s := by rw [← flat_len f s hf]; exact (List.getElem?_eq_some_iff.1 h).1
  have hi : j / s < l.length := by rw [Nat.div_lt_iff_lt_mul hs]; exact hj
  have hd : j = j / s * s + j % s := by rw [Nat.mul_comm]; exact (Nat.div_add_mod j s).symm
  have hr : j % s < s := Nat.mod_lt _ hs
  refine ⟨j / s, j % s, l[j / s], List.getElem?_eq_getElem hi, hr, hd, ?_⟩
  have := flat_at f s hf l (j / s) (j % s) _ (List.getElem?_eq_getElem hi) hr
  rw [← hd, h] at this
  exact this.symm
theorem SlC.flat {w : World} {b o : Nat} {l : List Cl} (hx : ∀ (j : Nat) x, l[j]? = some x → w.cell? ⟨b, o + j * 4, none⟩ = some (.string (str x.key)) ∧ w.cell? ⟨b, o + j * 4 + 1, none⟩ = some (.string (str x.val)) ∧ w.cell? ⟨b, o + j * 4 + 2, none⟩ = some (.int .u32 x.chain) ∧ w.cell? ⟨b, o + j * 4 + 3, none⟩ = some (.int .u32 x.long)) :
    ∀ j u, (l.flatMap cellsC)[j]? = some u → w.cell? ((⟨b, o, none⟩ : Addr).add j) = some u := by
  intro j u hj
  obtain ⟨i, r, x, hi, hr, rfl, hu⟩ := flat_split cellsC 4 (by decide) cellsC_len l j u hj
  obtain ⟨h0, h1, h2, h3⟩ := hx i x hi
  rw [add_plain', ← Nat.add_assoc]
  match r, hr, hu with
  | 0, _, hu => simp [cellsC] at hu; rw [← hu]; exact h0
  | 1, _, hu => simp [cellsC] at hu; rw [← hu]; exact h1
  | 2, _, hu => simp [cellsC] at hu; rw [← hu]; exact h2
  | 3, _, hu => simp [cellsC] at hu; rw [← hu]; exact h3
theorem SlK.flat {w : World} {b o : Nat} {l : List Kd} (hx : ∀ (j : Nat) x, l[j]? = some x → w.cell? ⟨b, o + j * 2, none⟩ = some (.string (str x.key)) ∧ w.cell? ⟨b, o + j * 2 + 1, none⟩ = some (.int .u32 x.page)) :
    ∀ j u, (l.flatMap cellsK)[j]? = some u → w.cell? ((⟨b, o, none⟩ : Addr).add j) = some u := by
  intro j u hj
  obtain ⟨i, r, x, hi, hr, rfl, hu⟩ := flat_split cellsK 2 (by decide) cellsK_len l j u hj
  obtain ⟨h0, h1⟩ := hx i x hi
  rw [add_plain', ← Nat.add_assoc]
  match r, hr, hu with
  | 0, _, hu => simp [cellsK] at hu; rw [← hu]; exact h0
  | 1, _, hu => simp [cellsK] at hu; rw [← hu]; exact h1
theorem flat_oneC (l : List Cl) : ∀ u ∈ l.flatMap cellsC, u.oneCell' = true := by
  intro u hu
  obtain ⟨x, _, h⟩ := List.mem_flatMap.1 hu
  exact cellsC_one x u h
theorem flat_oneK (l : List Kd) : ∀ u ∈ l.flatMap cellsK, u.oneCell' = true := by
  intro u hu
  obtain ⟨x, _, h⟩ := List.mem_flatMap.1 hu
  exact cellsK_one x u h
end Go.Proofs.YtgmneapgihakgaaGreatDoor
/- Rows of texts of one's own, as rows of cells. -/
namespace Go.Proofs.YtgmneapgihakgaaGreatDoor
open Go.RowKit
def cellsT (x : List UInt8) : List Value := [.string (str x)]
theorem cellsT_len (x : List UInt8) : (cellsT x).length = 1 := rfl
theorem cellsT_one (x : List UInt8) : ∀ u ∈ cellsT x, u.oneCell' = true := by
  intro u hu
  simp [cellsT] at hu
  subst hu
  rfl
theorem infoT : (Tryz.prog.info? 9).map (fun i => (i.zero, i.size, i.bytes)) = some (some (.string ⟨#[]⟩), 1, 16) := by kernel_rfl
def RowT (w : World) (B : Nat) (v : Value) (l : List (List UInt8)) : Prop := w.ownsRow B 9 1 v l.length (l.flatMap cellsT)
theorem flat_oneT (l : List (List UInt8)) : ∀ u ∈ l.flatMap cellsT, u.oneCell' = true := by
  intro u hu
  obtain ⟨x, _, h⟩ := List.mem_flatMap.1 hu
  exact cellsT_one x u h
end Go.Proofs.YtgmneapgihakgaaGreatDoor
/- The contract of slices.Insert of one cell, at a row of one's own. -/
namespace Go.Proofs.YtgmneapgihakgaaGreatDoor
open Go.RowKit
open Sl (Cl Kd)
inductive InsOutT (B : Nat) (u : Value) (l : List (List UInt8)) (w : World) (e : Ending) (w' : World) : Prop
  | mk (v : Value) (he : e = .returned v) (hr : RowT w' B v l) (hb : Below B w w') (hk : ∀ k, u.ownBlock ≠ some k → k < w.heap.size → w'.heap[k]? = w.heap[k]?) (hf : v.ownBlock = u.ownBlock ∨ ∃ g, v.ownBlock = some g ∧ w.heap.size ≤ g)
theorem flatAtT (x : (List UInt8)) (vb : Nat) (T : TypeId) (w : World) (hvb : w.heap[vb]? = some (.cells (cellsT x).toArray T (0, 0))) : ∀ j u, (cellsT x)[j]? = some u → w.cell? ((⟨vb, 0, none⟩ : Addr).add j) = some u := by
  intro j u hj
  rw [add_plain', Nat.zero_add, cell_of_row w vb j _ T (0, 0) hvb]
  simpa using hj
theorem rowAtT (w : World) (g : Nat) (cur : Array Value) (l : List (List UInt8)) (hg : w.heap[g]? = some (.cells cur 9 (0, 0))) (htk : cur.toList.take (l.length * 1) = l.flatMap cellsT) (k : Nat) : ∀ j u, ((l.flatMap cellsT).drop (k * 1))[j]? = some u → w.cell? ((⟨g, k * 1, none⟩ : Addr).add j) = some u := by
  intro j u hj
  rw [add_plain', cell_of_row w g _ _ _ (0, 0) hg]
  rw [List.getElem?_drop, ← htk] at hj
  have hlt := (List.getElem?_eq_some_iff.1 hj).1
  rw [List.length_take] at hlt
  rw [List.getElem?_take_of_lt (by omega)] at hj
  simpa using hj
theorem flat_takeT (l : List (List UInt8)) (x : (List UInt8)) (i : Nat) : (l.flatMap cellsT).take (i * 1) ++ cellsT x ++ (l.flatMap cellsT).drop (i * 1) = (l.take i ++ x :: l.drop i).flatMap cellsT := by
  have h : ∀ (l : List (List UInt8)) (i : Nat), (l.flatMap cellsT).take (i * 1) = (l.take i).flatMap cellsT ∧ (l.flatMap cellsT).drop (i * 1) = (l.drop i).flatMap cellsT := by
    intro l
    induction l with
    | nil => intro i; simp
    | cons y t ih =>
      intro i
      cases i with
      | zero => simp
      | succ i =>
        obtain ⟨h1, h2⟩ := ih i
        have hl := cellsT_len y
        rw [List.flatMap_cons, List.take_succ_cons, List.drop_succ_cons, List.flatMap_cons, show (i + 1) * 1 = (cellsT y).length + i * 1 by rw [hl]; omega, List.take_append, List.drop_append]
        rw [List.take_of_length_le (by omega), List.drop_of_length_le (by omega), Nat.add_sub_cancel_left, h1, h2]
        exact ⟨rfl, rfl⟩
  obtain ⟨h1, h2⟩ := h l i
  rw [h1, h2, List.flatMap_append, List.flatMap_cons, List.append_assoc]
set_option maxHeartbeats 4000000 in
theorem insertT_shift (B g cap i vb vc : Nat) (cur : Array Value) (l : List (List UInt8)) (x : (List UInt8)) (T : TypeId) (w : World) (hi : i < l.length) (hroom : l.length + 1 ≤ cap) (hcap : cap ≤ maxLen) (hg : w.heap[g]? = some (.cells cur 9 (0, 0))) (hB : B ≤ g) (hsz : cur.size = cap * 1) (htk : cur.toList.take (l.length * 1) = l.flatMap cellsT) (hvb : w.heap[vb]? = some (.cells (cellsT x).toArray T (0, 0))) (hne : vb ≠ g) :
    Calls Tryz.prog 180 #[.slice (some ⟨g, 0, none⟩) l.length cap, .int .i64 i, .slice (some ⟨vb, 0, none⟩) 1 vc] w (InsOutT B (.slice (some ⟨g, 0, none⟩) l.length cap) (l.take i ++ x :: l.drop i) w) := by
  obtain ⟨i0, hi0, hz0, hz1, hz2⟩ := info_parts infoT
  have hs1 : (Tryz.prog.info? 9).map (·.size) = some 1 := by rw [hi0]; simp [hz1]
  have hflen : (l.flatMap cellsT).length = l.length * 1 := flat_len _ _ cellsT_len _
  have hfd : ((l.flatMap cellsT).drop (i * 1)).length = (l.length - i) * 1 := by rw [List.length_drop, hflen]; omega
  have hxl := cellsT_len x
  have hxs : (cellsT x).toArray.size = 1 := by simpa using hxl
  have hcl : cur.toList.length = cap * 1 := by simpa using hsz
  have hov : ∀ lb cb, (callFunc 249 #[.slice (some ⟨vb, 0, none⟩) 1 vc, .slice (some ⟨g, (i + 1) * 1, none⟩) lb cb]).run Tryz.prog w = .ok (.value (.bool false)) w := fun lb cb => by
    rw [run_callFunc_extern Tryz.func249 (by kernel_rfl) (by kernel_rfl) (by kernel_rfl) (e := Extern.SlicesOverlaps.overlaps #[52, 52] #[4]) (by kernel_rfl),
      Lib.run_overlaps_apart w 52 4 9 Tryz.underlying52 1 (fun w => by kernel_rfl) ⟨vb, 0, none⟩ ⟨g, (i + 1) * 1, none⟩ 1 vc lb cb hne T 9 1 (cap * 1) (by simp [World.shape?, hvb, hxs]) (by simp [World.shape?, hg, hsz]) (by omega) (by simp [World.frozen?, hvb]) (by simp [World.frozen?, hvb])]
    rfl
  obtain ⟨R1, hR1⟩ : ∃ R1, R1 = cur.toList.take ((i + 1) * 1) ++ (l.flatMap cellsT).drop (i * 1) ++ cur.toList.drop ((i + 1) * 1 + ((l.flatMap cellsT).drop (i * 1)).length) := ⟨_, rfl⟩
  obtain ⟨R2, hR2⟩ : ∃ R2, R2 = R1.take (i * 1) ++ cellsT x ++ R1.drop (i * 1 + (cellsT x).length) := ⟨_, rfl⟩
  have hR1l : R1.length = cap * 1 := by rw [hR1]; simp only [List.length_append, List.length_take, List.length_drop, hcl, hflen]; omega
  have hcp1 : ∀ ty dl dc sl sc, dl = l.length - i → sl = l.length + 1 - i → (Builtin.copy_ #[52, 52] ty #[.slice (some ⟨g, (i + 1) * 1, none⟩) dl dc, .slice (some ⟨g, i * 1, none⟩) sl sc]).run Tryz.prog w.drew = .ok (goInt (Nat.min sl dl)) (w.drew.setRow g R1.toArray) := fun ty dl dc sl sc h1 h2 => by
    subst h1; subst h2
    rw [hR1]
    exact run_copy_rowS w.drew _ _ ty 9 1 g ((i + 1) * 1) _ dc ⟨g, i * 1, none⟩ _ sc cur 9 ((l.flatMap cellsT).drop (i * 1)) Tryz.underlying52 hs1 hg (by rw [hfd]; simp only [Nat.min_def]; split <;> omega) (rowAtT w.drew g cur l hg htk i) (by rw [hfd, hsz]; omega) (fun v hv => flat_oneT l v (List.mem_of_mem_drop hv))
  have hcp2 : ∀ (W : World), W.heap = (w.drew.setRow g R1.toArray).heap → ∀ ty dl dc, 1 ≤ dl → (Builtin.copy_ #[52, 52] ty #[.slice (some ⟨g, i * 1, none⟩) dl dc, .slice (some ⟨vb, 0, none⟩) 1 vc]).run Tryz.prog W = .ok (goInt (Nat.min 1 dl)) (W.setRow g R2.toArray) := fun W hW ty dl dc h1 => by
    have hgW : W.heap[g]? = some (.cells R1.toArray 9 (0, 0)) := by rw [hW]; exact setRow_heap w.drew g cur _ _ _ hg
    have hvW : W.heap[vb]? = some (.cells (cellsT x).toArray T (0, 0)) := by rw [hW, setRow_other w.drew g vb _ hne]; exact hvb
    have := run_copy_rowS (P := Tryz.prog) W 52 52 ty 9 1 g (i * 1) dl dc ⟨vb, 0, none⟩ 1 vc R1.toArray 9 (cellsT x) Tryz.underlying52 hs1 hgW (by rw [hxl]; simp only [Nat.min_def]; split <;> omega) (flatAtT x vb T W hvW) (by rw [hxl, List.size_toArray, hR1l]; omega) (fun v hv => cellsT_one x v hv)
    rw [this, hR2]
  have HR : Hid (R2.length = cap * 1 ∧ R2.take ((l.length + 1) * 1) = (l.take i ++ x :: l.drop i).flatMap cellsT) := by
    have e1 : (i + 1) * 1 = i * 1 + 1 := by omega
    rw [e1] at hR1
    refine ⟨?_, ?_⟩
    · rw [hR2, hR1, seg_ins_len (i * 1) (l.length * 1) 1 cur.toList _ _ (by omega) htk (by rw [hcl]; omega) hxl, hcl]
    · rw [show (l.length + 1) * 1 = l.length * 1 + 1 by omega, hR2, hR1, seg_ins (i * 1) (l.length * 1) 1 cur.toList _ _ (by omega) htk (by rw [hcl]; omega) hxl, flat_takeT]
  have HG := Lib.hid hg
  have HB := Lib.hid hB
  have hin : ¬ ((i : Int) = (l.length : Int)) := by omega
  have hb2 : ¬ (cap = i + 1) := by omega
  have hb4 : ¬ (cap = i) := by omega
  have hb5 : i ≤ l.length := by omega
  have hw1 : IntKind.i64.wrap ((i : Int) + 1) = (i : Int) + 1 := IntWalk.i64_in _ (by unfold maxLen at hcap; omega)
  have hw2 : IntKind.i64.wrap ((l.length : Int) + 1) = (l.length : Int) + 1 := IntWalk.i64_in _ (by unfold maxLen at hcap; omega)
  have HCAP := Lib.hid hcap
  unfold maxLen at hcap
  have hb1 : (0 : Int) ≤ (i : Int) + 1 := by omega
  have htn : ((i : Int) + 1).toNat = i + 1 := by omega
  have htn2 : ((l.length : Int) + 1).toNat = l.length + 1 := by omega
  have HROOM := Lib.hid hroom
  have hb3 : (i : Int) ≤ (l.length : Int) + 1 := by omega
  have mixed : Tryz.prog.follows Departure.mixedOrders = true := by kernel_rfl
  clear hR1 hR2 hR1l hflen hfd hxs hcl hsz htk hvb hg hs1 hi0 hz0 hz1 hz2 hxl
  go_enter Tryz.func180, Tryz.ntmps180
  simp only [Nat.mul_one] at hov hcp1 hcp2
  go_wp2_with (simp only [hov])
  go_region_law_o (refine Go.Proofs.step_copy_runI rfl _ _ 52 52 rfl _ _ (by simp [Act.eval, Act.put]) (by simp [Act.eval, Act.put]) (hcp1 _ _ _ _ _ (by omega) (by omega)) ?_)
  go_wp2_with (refine Go.Proofs.wpList_copy_runI (o := ⟨some 82, _, _, _, _, _⟩) _ rfl _ _ 52 52 rfl _ _ rfl rfl (hcp2 _ rfl _ _ _ (by omega)) ?_)
  go_ret
  refine ⟨_, rfl, ?_, ?_, fun k hk _ => ?_, .inl rfl⟩
  · have hgW : (w.drew.setRow g R1.toArray).heap[g]? = some (.cells R1.toArray 9 (0, 0)) := setRow_heap w.drew g cur _ _ _ HG.out
    have hlen : (l.take i ++ x :: l.drop i).length = l.length + 1 := by simp only [List.length_append, List.length_take, List.length_cons, List.length_drop]; omega
    show World.ownsRow _ _ _ _ _ _ _
    rw [hlen]
    exact owns_setRow hgW HB.out HROOM.out HCAP.out HR.out.1 (by rw [flat_len _ _ cellsT_len _, hlen]) HR.out.2
  · exact below_setRow (below_setRow (Below.refl _ _).drew HB.out _) HB.out _
  · have hkg : k ≠ g := fun h => hk (by rw [h]; rfl)
    exact (setRow_other _ g k _ hkg).trans (setRow_other _ g k _ hkg)
end Go.Proofs.YtgmneapgihakgaaGreatDoor
/- The contract of slices.Insert of one cell, at a row of one's own: at its end, and where there is no room. -/
namespace Go.Proofs.YtgmneapgihakgaaGreatDoor
open Go.RowKit
open Sl (Cl Kd)
theorem insertT_end (B vb vc : Nat) (v : Value) (l : List (List UInt8)) (x : (List UInt8)) (T : TypeId) (w : World) (hv : RowT w B v l) (hB : B ≤ w.heap.size) (hl : l.length ≤ 100000) (hvb : w.heap[vb]? = some (.cells (cellsT x).toArray T (0, 0))) :
    Calls Tryz.prog 180 #[v, .int .i64 l.length, .slice (some ⟨vb, 0, none⟩) 1 vc] w (InsOutT B v (l ++ [x]) w) := by
  obtain ⟨i0, hi0, hz0, hz1, hz2⟩ := info_parts infoT
  have HOWN := Lib.hid hv
  have HLO := Lib.hid (fun k hk => (World.ownsRow.lt hv k hk).1)
  have HF := Lib.hid (flatAtT x vb T w hvb)
  have HXL := Lib.hid (show (cellsT x).length = 1 * 1 from cellsT_len x)
  have HX1 := Lib.hid (fun u hu => cellsT_one x u hu)
  have HFIN : Hid (∀ v' w1, w1.ownsRow B 9 1 v' (l.length + 1) (l.flatMap cellsT ++ cellsT x) → RowT w1 B v' (l ++ [x])) := fun v' w1 h => by
    show World.ownsRow _ _ _ _ _ _ _
    rw [List.length_append, List.flatMap_append]
    simpa using h
  obtain ⟨_, h1⟩ := hv
  rcases h1 with ⟨rfl, h0⟩ | ⟨g, cap, cur, rfl, hg, _, hn, hm, _, _⟩
  · obtain rfl : l = [] := List.length_eq_zero_iff.1 h0
    clear hvb
    go_enter Tryz.func180, Tryz.ntmps180
    go_wp2_with (at_builtin; refine wpList_append_own_at _ rfl _ _ 52 rfl B 9 i0 _ 1 16 Tryz.underlying52 hi0 hz0 hz1 hz2 rfl (by decide) _ 0 _ rfl HOWN.out ⟨vb, 0, none⟩ 1 vc (cellsT x) rfl HXL.out HF.out HX1.out (by unfold maxLen; omega) (by omega) hB ?_)
    intro v' w1 hown hgrow _ hat
    go_wp2
    go_ret
    exact ⟨_, rfl, HFIN.out _ _ hown, (Below.refl _ _).grown hgrow hB (fun k hk => by simp [Value.ownBlock] at hk), fun k hk hlt => hgrow.block k hlt (fun e => hk e.symm), hat.imp id (fun h => ⟨_, h, Nat.le_refl _⟩)⟩
  · unfold maxLen at hm
    clear hvb
    by_cases hcn : cap = l.length
    all_goals
      try subst hcn
      go_enter Tryz.func180, Tryz.ntmps180
      go_wp2_with (at_builtin; refine wpList_append_own_at _ rfl _ _ 52 rfl B 9 i0 _ 1 16 Tryz.underlying52 hi0 hz0 hz1 hz2 rfl (by decide) _ l.length _ rfl HOWN.out ⟨vb, 0, none⟩ 1 vc (cellsT x) rfl HXL.out HF.out HX1.out (by unfold maxLen; omega) (by omega) hB ?_)
      intro v' w1 hown hgrow _ hat
      go_wp2
      go_ret
      exact ⟨_, rfl, HFIN.out _ _ hown, (Below.refl _ _).grown hgrow hB HLO.out, fun k hk hlt => hgrow.block k hlt (fun e => hk e.symm), hat.imp id (fun h => ⟨_, h, Nat.le_refl _⟩)⟩
theorem zeros_lenT (z : Array Value) (n : Nat) : (Builtin.zeroCells z n).size = n * z.size := by simp [Builtin.zeroCells]
set_option maxHeartbeats 8000000 in
theorem insertT_grow (B g cap i vb vc : Nat) (cur : Array Value) (l : List (List UInt8)) (x : (List UInt8)) (T : TypeId) (w : World) (hi : i < l.length) (hnc : l.length ≤ cap) (hroom : ¬ l.length + 1 ≤ cap) (hl : l.length ≤ 100000) (hB : B ≤ w.heap.size) (hg : w.heap[g]? = some (.cells cur 9 (0, 0))) (htk : cur.toList.take (l.length * 1) = l.flatMap cellsT) (hvb : w.heap[vb]? = some (.cells (cellsT x).toArray T (0, 0))) :
    Calls Tryz.prog 180 #[.slice (some ⟨g, 0, none⟩) l.length cap, .int .i64 i, .slice (some ⟨vb, 0, none⟩) 1 vc] w (InsOutT B (.slice (some ⟨g, 0, none⟩) l.length cap) (l.take i ++ x :: l.drop i) w) := by
  obtain ⟨i0, hi0, hz0, hz1, hz2⟩ := info_parts infoT
  obtain rfl : cap = l.length := by omega
  obtain ⟨z, hzz, hzs⟩ : ∃ z, i0.zero = some z ∧ z.cells.size = 1 := ⟨_, hz0, rfl⟩
  have hs1 : (Tryz.prog.info? 9).map (·.size) = some 1 := by rw [hi0]; simp [hz1]
  have hflen : (l.flatMap cellsT).length = l.length * 1 := flat_len _ _ cellsT_len _
  have hxl := cellsT_len x
  have hglt : g < w.heap.size := (Array.getElem?_eq_some_iff.1 hg).1
  have hvlt : vb < w.heap.size := (Array.getElem?_eq_some_iff.1 hvb).1
  have hrow : ∀ k, ∀ j u, ((l.flatMap cellsT).drop (k * 1))[j]? = some u → w.cell? ((⟨g, k * 1, none⟩ : Addr).add j) = some u := rowAtT w g cur l hg htk
  have hold : (Builtin.firstCells i0.size i (.slice (some ⟨g, 0, none⟩) i l.length)).run Tryz.prog w.drew = .ok ((l.flatMap cellsT).take (i * 1)).toArray w.drew := by
    rw [hz1]
    exact run_firstCells_some w.drew 1 i ⟨g, 0, none⟩ i l.length ((l.flatMap cellsT).take (i * 1)) (by rw [List.length_take, hflen]; omega) (fun j u hj => by
      have hj2 := (List.getElem?_eq_some_iff.1 hj).1
      rw [List.length_take] at hj2
      rw [List.getElem?_take_of_lt (by omega)] at hj
      exact hrow 0 j u (by rw [Nat.zero_mul, List.drop_zero]; exact hj))
  obtain ⟨G, hG⟩ : ∃ G, G = grownCap w (l.length + 1) l.length 9 := ⟨_, rfl⟩
  have hrz : ∀ ty, (Builtin.append_ #[52, 3] ty #[.slice (some ⟨g, 0, none⟩) i l.length, .int .i64 ((l.length : Int) + 1 - (i : Int))]).run Tryz.prog w =
      .ok (.slice (some ⟨w.heap.size, 0, none⟩) (l.length + 1) G) (w.drew.alloc (.cells (((l.flatMap cellsT).take (i * 1)).toArray ++ Builtin.zeroCells z.cells (l.length + 1 - i) ++ Builtin.zeroCells z.cells (G - (l.length + 1))) 9)) := fun ty => by
    have hik : i + (l.length + 1 - i) = l.length + 1 := by omega
    have h := Lib.run_append_grow_zeros w 52 3 ty 9 i0 _ .i64 .i64 Tryz.underlying52 Tryz.underlying3 hi0 hzz (some ⟨g, 0, none⟩) i l.length _ hold (l.length + 1 - i) (by omega) (by rw [hz1]; decide) (by omega) (by omega) (by rw [hz2]; omega) (by rw [hz2, hik]; exact growslice_fits (by omega) (by omega))
    rw [hik, ← hG] at h
    rw [show (l.length : Int) + 1 - (i : Int) = ((l.length + 1 - i : Nat) : Int) by omega]
    exact h
  obtain ⟨R0, hR0⟩ : ∃ R0 : Array Value, R0 = ((l.flatMap cellsT).take (i * 1)).toArray ++ Builtin.zeroCells z.cells (l.length + 1 - i) ++ Builtin.zeroCells z.cells (G - (l.length + 1)) := ⟨_, rfl⟩
  rw [← hR0] at hrz
  have hGn : l.length + 1 ≤ G := by rw [hG]; exact grownCap_ge w _ _ _
  have hGm : G ≤ maxLen := by rw [hG]; exact grownCap_le_maxLen w (l.length + 1) l.length 9 (by unfold maxLen; omega)
  have hR0l : R0.toList.length = G * 1 := by
    rw [hR0]
    simp only [Array.toList_append, List.length_append, Array.length_toList, zeros_lenT, hzs, List.length_take, hflen]
    omega
  have hR0t : R0.toList.take (i * 1) = (l.flatMap cellsT).take (i * 1) := by
    rw [hR0]
    simp only [Array.toList_append, List.append_assoc]
    rw [List.take_append_of_le_length (by rw [List.length_take, hflen]; omega), List.take_of_length_le (by rw [List.length_take]; omega)]
  obtain ⟨R1, hR1⟩ : ∃ R1, R1 = R0.toList.take (i * 1) ++ cellsT x ++ R0.toList.drop (i * 1 + (cellsT x).length) := ⟨_, rfl⟩
  obtain ⟨R2, hR2⟩ : ∃ R2, R2 = R1.take ((i + 1) * 1) ++ (l.flatMap cellsT).drop (i * 1) ++ R1.drop ((i + 1) * 1 + ((l.flatMap cellsT).drop (i * 1)).length) := ⟨_, rfl⟩
  have hR1l : R1.length = G * 1 := by rw [hR1]; simp only [List.length_append, List.length_take, List.length_drop, hR0l, hxl]; omega
  have hh0 : ∀ W : World, W.heap = (w.alloc (.cells R0 9)).heap → W.heap[w.heap.size]? = some (.cells R0 9 (0, 0)) := fun W hW => by rw [hW]; exact heap_alloc_new w _
  have hvW : ∀ W : World, W.heap = (w.alloc (.cells R0 9)).heap → W.heap[vb]? = some (.cells (cellsT x).toArray T (0, 0)) := fun W hW => by rw [hW, Below.heap_alloc w _ vb hvlt]; exact hvb
  have hcpA : ∀ (W : World), W.heap = (w.alloc (.cells R0 9)).heap → ∀ ty dl dc, 1 ≤ dl → (Builtin.copy_ #[52, 52] ty #[.slice (some ⟨w.heap.size, i * 1, none⟩) dl dc, .slice (some ⟨vb, 0, none⟩) 1 vc]).run Tryz.prog W = .ok (goInt (Nat.min 1 dl)) (W.setRow w.heap.size R1.toArray) := fun W hW ty dl dc h1 => by
    have := run_copy_rowS (P := Tryz.prog) W 52 52 ty 9 1 w.heap.size (i * 1) dl dc ⟨vb, 0, none⟩ 1 vc R0 9 (cellsT x) Tryz.underlying52 hs1 (hh0 W hW) (by rw [hxl]; simp only [Nat.min_def]; split <;> omega) (flatAtT x vb T W (hvW W hW)) (by rw [hxl, ← Array.length_toList, hR0l]; omega) (fun v hv => cellsT_one x v hv)
    rw [this, hR1]
  have hcpB : ∀ (W : World), W.heap = ((w.alloc (.cells R0 9)).setRow w.heap.size R1.toArray).heap → ∀ ty dl dc sl sc, dl = l.length - i → sl = l.length - i → (Builtin.copy_ #[52, 52] ty #[.slice (some ⟨w.heap.size, (i + 1) * 1, none⟩) dl dc, .slice (some ⟨g, i * 1, none⟩) sl sc]).run Tryz.prog W = .ok (goInt (Nat.min sl dl)) (W.setRow w.heap.size R2.toArray) := fun W hW ty dl dc sl sc h1 h2 => by
    subst h1; subst h2
    have hgW : W.heap[w.heap.size]? = some (.cells R1.toArray 9 (0, 0)) := by rw [hW]; exact setRow_heap _ _ R0 _ _ _ (heap_alloc_new w _)
    have hgg : W.heap[g]? = some (.cells cur 9 (0, 0)) := by rw [hW, setRow_other _ _ g _ (by omega), Below.heap_alloc w _ g hglt]; exact hg
    have hfd : ((l.flatMap cellsT).drop (i * 1)).length = (l.length - i) * 1 := by rw [List.length_drop, hflen]; omega
    have := run_copy_rowS (P := Tryz.prog) W 52 52 ty 9 1 w.heap.size ((i + 1) * 1) (l.length - i) dc ⟨g, i * 1, none⟩ (l.length - i) sc R1.toArray 9 ((l.flatMap cellsT).drop (i * 1)) Tryz.underlying52 hs1 hgW (by rw [hfd]; simp only [Nat.min_def]; split <;> omega) (rowAtT W g cur l hgg htk i) (by rw [hfd, List.size_toArray, hR1l]; omega) (fun v hv => flat_oneT l v (List.mem_of_mem_drop hv))
    rw [this, hR2]
  have HR : Hid (R2.length = G * 1 ∧ R2.take ((l.length + 1) * 1) = (l.take i ++ x :: l.drop i).flatMap cellsT) := by
    have e1 : (i + 1) * 1 = i * 1 + 1 := by omega
    rw [e1] at hR2
    refine ⟨?_, ?_⟩
    · rw [hR2, hR1, seg_ins2_len (i * 1) (l.length * 1) 1 R0.toList _ _ (by omega) hflen (by rw [hR0l]; omega) hxl, hR0l]
    · rw [show (l.length + 1) * 1 = l.length * 1 + 1 by omega, hR2, hR1, seg_ins2 (i * 1) (l.length * 1) 1 R0.toList _ _ (by omega) hflen hR0t (by rw [hR0l]; omega) hxl, flat_takeT]
  have HB := Lib.hid hB
  have HGN := Lib.hid hGn
  have HGM := Lib.hid hGm
  unfold maxLen at hGm
  have hin : ¬ ((i : Int) = (l.length : Int)) := by omega
  have hb4 : ¬ (l.length = i) := by omega
  have hb5 : i ≤ l.length := by omega
  have hb6 : ¬ (G = i) := by omega
  have hb7 : ¬ (G = i + 1) := by omega
  have hw1 : IntKind.i64.wrap ((i : Int) + 1) = (i : Int) + 1 := IntWalk.i64_in _ (by omega)
  have hw2 : IntKind.i64.wrap ((l.length : Int) + 1) = (l.length : Int) + 1 := IntWalk.i64_in _ (by omega)
  have hw3 : IntKind.i64.wrap ((l.length : Int) + 1 - (i : Int)) = (l.length : Int) + 1 - (i : Int) := IntWalk.i64_in _ (by omega)
  have hb1 : (0 : Int) ≤ (i : Int) + 1 := by omega
  have htn : ((i : Int) + 1).toNat = i + 1 := by omega
  have hb3 : (i : Int) ≤ (l.length : Int) + 1 := by omega
  have mixed : Tryz.prog.follows Departure.mixedOrders = true := by kernel_rfl
  clear hR0 hR1 hR2 hR0l hR0t hR1l hh0 hvW hflen htk hvb hg hs1 hi0 hz0 hz1 hz2 hxl hzz hzs hrow hold hG hglt hvlt hroom hnc
  simp only [Nat.mul_one] at hcpA hcpB
  go_enter Tryz.func180, Tryz.ntmps180
  go_wp2_with (first
    | (at_builtin; refine Lib.wpList_append_run _ rfl _ _ _ _ rfl _ _ rfl rfl _ _ (hrz _) ?_)
    | (refine Go.Proofs.wpList_copy_runI (o := ⟨some 45, _, _, _, _, _⟩) _ rfl _ _ 52 52 rfl _ _ rfl rfl (hcpA (w.alloc (.cells R0 9)).drew rfl _ _ _ (by omega)) ?_))
  go_region_law_o (refine Go.Proofs.step_copy_runI rfl _ _ 52 52 rfl (.slice (some ⟨w.heap.size, i + 1, none⟩) (l.length - i) (G - (i + 1))) (.slice (some ⟨g, i, none⟩) (l.length - i) (l.length - i)) (by simp [Act.eval, Act.put]) (by simp [Act.eval, Act.put]) (hcpB (((w.alloc (.cells R0 9)).drew.setRow w.heap.size R1.toArray).drew) rfl 3 _ _ _ _ rfl rfl) ?_)
  go_wp2
  go_ret
  refine ⟨_, rfl, ?_, ?_, fun k _ hlt => ?_, .inr ⟨_, rfl, Nat.le_refl _⟩⟩
  · have hgW : ((w.alloc (.cells R0 9)).drew.setRow w.heap.size R1.toArray).drew.heap[w.heap.size]? = some (.cells R1.toArray 9 (0, 0)) := setRow_heap _ _ R0 _ _ _ (heap_alloc_new w _)
    have hlen : (l.take i ++ x :: l.drop i).length = l.length + 1 := by simp only [List.length_append, List.length_take, List.length_cons, List.length_drop]; omega
    show World.ownsRow _ _ _ _ _ _ _
    rw [hlen]
    exact owns_setRow hgW HB.out HGN.out HGM.out HR.out.1 (by rw [flat_len _ _ cellsT_len _, hlen]) HR.out.2
  · exact below_setRow (below_setRow ((Below.refl _ _).alloc HB.out _).drew HB.out _).drew HB.out _
  · have hkg : k ≠ w.heap.size := by omega
    exact ((setRow_other _ w.heap.size k _ hkg).trans (setRow_other _ w.heap.size k _ hkg)).trans (Below.heap_alloc w _ k hlt)
end Go.Proofs.YtgmneapgihakgaaGreatDoor
/- The contracts of slices.Insert and slices.Delete of one text, at a row of one's own. -/
namespace Go.Proofs.YtgmneapgihakgaaGreatDoor
open Go.RowKit Go.Sort
theorem insertT_any (B vb vc i : Nat) (v : Value) (l : List (List UInt8)) (x : (List UInt8)) (T : TypeId) (w : World) (hi : i ≤ l.length) (hl : l.length ≤ 100000) (hv : RowT w B v l) (hB : B ≤ w.heap.size) (hvb : w.heap[vb]? = some (.cells (cellsT x).toArray T (0, 0))) (hne : v.ownBlock ≠ some vb) :
    Calls Tryz.prog 180 #[v, .int .i64 i, .slice (some ⟨vb, 0, none⟩) 1 vc] w (InsOutT B v (l.take i ++ x :: l.drop i) w) := by
  by_cases he : i = l.length
  · subst he
    rw [List.take_length, List.drop_length]
    exact insertT_end B vb vc v l x T w hv hB hl hvb
  · obtain ⟨_, h1⟩ := hv
    rcases h1 with ⟨rfl, h0⟩ | ⟨g, cap, cur, rfl, hg, hh, hn, hm, hs, ht⟩
    · omega
    · have hng : vb ≠ g := fun h => hne (by rw [h]; rfl)
      by_cases hr : l.length + 1 ≤ cap
      · exact insertT_shift B g cap i vb vc cur l x T w (by omega) hr hm hh hg hs ht hvb hng
      · exact insertT_grow B g cap i vb vc cur l x T w (by omega) hn hr hl hB hh ht hvb
theorem flat_eS (l : List Txt) : l.flatMap cellsT = l.map eS := by
  induction l with
  | nil => rfl
  | cons x t ih => rw [List.flatMap_cons, ih]; rfl
theorem rowT_iff (w : World) (B : Nat) (v : Value) (l : List Txt) : RowT w B v l = RowS w B v l := by
  unfold RowT RowS RowP
  rw [flat_eS]
theorem oneS : OneCell eS := fun _ => rfl
/-- What Insert answers. -/
structure InsS (B : Nat) (u : Value) (l : List Txt) (w : World) (v : Value) (w' : World) : Prop where
  row : RowS w' B v l
  below : Below B w w'
  keep : ∀ k, u.ownBlock ≠ some k → k < w.heap.size → w'.heap[k]? = w.heap[k]?
  at' : v.ownBlock = u.ownBlock ∨ ∃ g, v.ownBlock = some g ∧ w.heap.size ≤ g
theorem sxIns_any (B vb vc i : Nat) (v : Value) (l : List Txt) (x : Txt) (T : TypeId) (w : World) (hi : i ≤ l.length) (hl : l.length ≤ 100000) (hv : RowS w B v l) (hB : B ≤ w.heap.size) (hvb : w.heap[vb]? = some (.cells #[.string (str x)] T (0, 0))) (hne : v.ownBlock ≠ some vb) :
    Calls Tryz.prog 180 #[v, .int .i64 i, .slice (some ⟨vb, 0, none⟩) 1 vc] w fun e w' => ∃ v', e = .returned v' ∧ InsS B v (Tx.ins l i x) w v' w' :=
  (insertT_any B vb vc i v l x T w hi hl (by rw [rowT_iff]; exact hv) hB hvb hne).mono fun e w' h => by
    obtain ⟨v', he, hr, hb, hk, hf⟩ := h
    rw [rowT_iff] at hr
    exact ⟨v', he, hr, hb, hk, hf⟩
/-- What Delete of one answers. -/
theorem sxDel_any (B g cap i : Nat) (l : List Txt) (w : World) (hi : i < l.length) (hv : RowS w B (.slice (some ⟨g, 0, none⟩) l.length cap) l) :
    Calls Tryz.prog 346 #[.slice (some ⟨g, 0, none⟩) l.length cap, .int .i64 i, .int .i64 ((i : Int) + 1)] w fun e w' => ∃ v', e = .returned v' ∧ v'.ownBlock = some g ∧ InsS B (.slice (some ⟨g, 0, none⟩) l.length cap) (Tx.del l i) w v' w' := by
  obtain ⟨i0, hi0, hz0, hz1, hz2⟩ := info_parts infoS
  have hcap : l.length ≤ cap ∧ cap ≤ 9223372036854775807 ∧ B ≤ g ∧ g < w.heap.size := by
    rcases hv.open with ⟨h, _⟩ | ⟨g', cap', cur, h, hB, hg, h1, h2, _⟩
    · cases h
    · cases h; exact ⟨h1, h2, hB, (Array.getElem?_eq_some_iff.1 hg).1⟩
  have hF : (l.take i ++ l.drop (i + 1) ++ List.replicate (i + 1 - i) ([] : Txt)).length = l.length := by simp; omega
  have h := Tryz.slices_Delete eS oneS ([] : Txt) (fun w => Tryz.zeroValue9 w) i0 hi0 hz1 g 0 cap i (i + 1) l.toArray w (hv.holds rfl) (by simpa using hcap.1) hcap.2.1 (by omega) (by show i + 1 ≤ l.length; omega)
  refine h.mono ?_
  rintro e w' ⟨he, q, hw⟩
  obtain ⟨hr, hb⟩ := RowP.put (n := q) (os := #[]) hv (l.take i ++ l.drop (i + 1) ++ List.replicate (i + 1 - i) ([] : Txt)) (l.length - 1) hF (by omega)
  rw [grow_none] at hr hb
  have hd : (l.take i ++ l.drop (i + 1) ++ List.replicate (i + 1 - i) ([] : Txt)).take (l.length - 1) = Tx.del l i := by
    rw [List.take_append_of_le_length (by simp; omega), List.take_of_length_le (by simp; omega)]; rfl
  rw [hd] at hr
  refine ⟨_, he, rfl, ?_, ?_, ?_, .inl rfl⟩
  · rw [hw]
    have e1 : l.toArray.size - (i + 1 - i) = l.length - 1 := by simp
    rw [e1]; exact hr
  · rw [hw]; exact hb
  · intro k hk _
    rw [hw]
    have : g ≠ k := fun h => hk (by rw [h]; rfl)
    simp [putRow, mapBlock, Sort.ahead, Array.getElem?_modify, this]
end Go.Proofs.YtgmneapgihakgaaGreatDoor
