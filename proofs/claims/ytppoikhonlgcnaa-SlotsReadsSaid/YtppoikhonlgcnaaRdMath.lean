/- What cut tells is a body of cells: where each piece is a cell's bytes, it is that of the cells, and the other way. -/
import Derived.Test.YtppoikhonlgcnaaRefReadS
import Derived.Test.YtppoikhonlgcnaaCut
namespace Go.Proofs.Ytppoikhonlgcnaa
open Go.RowKit
open Sl (Cl Kd)
def offS {α : Type} (S : Sl.Sh α) (l : List α) (j : Nat) : Nat := ((l.take j).flatMap S.enc).length
theorem off_zero {α : Type} (S : Sl.Sh α) (l : List α) : offS S l 0 = 0 := by simp [offS]
theorem off_succ {α : Type} (S : Sl.Sh α) (l : List α) (j : Nat) (x : α) (h : l[j]? = some x) : offS S l (j + 1) = offS S l j + (S.enc x).length := by
  unfold offS; rw [Sl.flat_at S l j x h, List.length_append]
theorem off_cons {α : Type} (S : Sl.Sh α) (x : α) (l : List α) (j : Nat) : offS S (x :: l) (j + 1) = (S.enc x).length + offS S l j := by
  unfold offS; rw [List.take_succ_cons, List.flatMap_cons, List.length_append]
theorem off_all {α : Type} (S : Sl.Sh α) (l : List α) : offS S l l.length = (l.flatMap S.enc).length := by unfold offS; rw [List.take_length]
theorem slot_begins {α : Type} (S : Sl.Sh α) : ∀ (l : List α) (n j : Nat) (t : List UInt8), j < l.length → ((Sl.begins S n l ++ t).drop (2 * j)).take 2 = Oc.big 2 (n + offS S l j)
  | [], _, _, _, h => absurd h (Nat.not_lt_zero _)
  | x :: l, n, 0, t, _ => by
    rw [Sl.begins, off_zero, List.append_assoc, Nat.mul_zero, List.drop_zero, Nat.add_zero]
    have hl := Oc.big_length 2 n
    rw [List.take_append_of_le_length (Nat.le_of_eq hl.symm), List.take_of_length_le (Nat.le_of_eq hl)]
  | x :: l, n, j + 1, t, h => by
    have hl := Oc.big_length 2 n
    rw [Sl.begins, List.append_assoc, show 2 * (j + 1) = (Oc.big 2 n).length + 2 * j by omega, ← List.drop_drop, List.drop_left, slot_begins S l _ j t (by simpa using h), off_cons, Nat.add_assoc]
theorem take_begins {α : Type} (S : Sl.Sh α) : ∀ (l : List α) (n : Nat) (s : List UInt8), 2 * l.length ≤ s.length → (∀ j, j < l.length → (s.drop (2 * j)).take 2 = Oc.big 2 (n + offS S l j)) → s.take (2 * l.length) = Sl.begins S n l
  | [], _, _, _, _ => by simp [Sl.begins]
  | x :: l, n, s, hs, h => by
    have h0 := h 0 (Nat.succ_pos _)
    rw [off_zero, Nat.mul_zero, List.drop_zero, Nat.add_zero] at h0
    have hs' : 2 * l.length + 2 ≤ s.length := by rw [List.length_cons] at hs; omega
    have hr := take_begins S l (n + (S.enc x).length) (s.drop 2) (by rw [List.length_drop]; omega) (fun j hj => by
      have := h (j + 1) (Nat.succ_lt_succ hj)
      rw [off_cons, show 2 * (j + 1) = 2 + 2 * j by omega, ← List.drop_drop, ← Nat.add_assoc] at this
      exact this)
    rw [Sl.begins, ← h0, ← hr, List.length_cons, show 2 * (l.length + 1) = 2 + 2 * l.length by omega, List.take_add]
theorem bs_lo (s : List UInt8) (c j : Nat) (h : j < c) : (bsOf s c).getD j 0 = slotAt s j := by
  unfold bsOf
  rw [List.getD_eq_getElem?_getD, List.getElem?_append_left (by simpa using h), List.getElem?_map, List.getElem?_range h]; rfl
theorem bs_hi (s : List UInt8) (c : Nat) : (bsOf s c).getD c 0 = s.length := by
  unfold bsOf
  rw [List.getD_eq_getElem?_getD, List.getElem?_append_right (by simp)]; simp
/-- A body's pieces are its cells' bytes. -/
theorem Canon.bs {leaf : Bool} {s : List UInt8} {c : Nat} {m : List Cl} (h : Canon leaf s c m) (hs : s.length ≤ 60000) (j : Nat) (hj : j ≤ c) : (bsOf s c).getD j 0 = 2 * c + offS (Sl.shR leaf) m j := by
  obtain ⟨h1, h2, h3⟩ := h
  have hz : s.length = 2 * c + (m.flatMap (Sl.shR leaf).enc).length := by rw [h3, Sl.body_len, Sl.sum_eq, h1]
  rcases Nat.lt_or_ge j c with h | h
  · rw [bs_lo s c j h]
    unfold slotAt
    have hle : offS (Sl.shR leaf) m j ≤ (m.flatMap (Sl.shR leaf).enc).length := by
      unfold offS
      conv => rhs; rw [← List.take_append_drop j m, List.flatMap_append, List.length_append]
      omega
    conv => lhs; rw [h3]
    unfold Sl.body
    rw [slot_begins (Sl.shR leaf) m _ j _ (by omega), h1, val_big2 _ (by omega)]
  · obtain rfl : j = c := by omega
    rw [bs_hi, hz, ← off_all, h1]
theorem Canon.cut {leaf : Bool} {s : List UInt8} {c : Nat} {m : List Cl} (h : Canon leaf s c m) (hs : s.length ≤ 60000) : CutGood s (c : Int) := by
  have hz := h.size
  refine ⟨Int.natCast_nonneg _, by omega, ?_, ?_⟩
  · rw [Int.toNat_natCast, h.bs hs 0 (Nat.zero_le _), off_zero]
    rfl
  · intro i hi
    rw [Int.toNat_natCast] at hi ⊢
    have hil : i < m.length := by rw [h.1]; omega
    rw [h.bs hs i (by omega), h.bs hs (i + 1) (by omega), off_succ _ _ i _ (List.getElem?_eq_getElem hil)]
    omega
theorem Canon.piece {leaf : Bool} {s : List UInt8} {c : Nat} {m : List Cl} (h : Canon leaf s c m) (hs : s.length ≤ 60000) (i : Nat) (x : Cl) (hx : m[i]? = some x) : pieceAt s c i = (Sl.shR leaf).enc x := by
  obtain ⟨hil, hxe⟩ := List.getElem?_eq_some_iff.1 hx
  have hic : i < c := by rw [← h.1]; exact hil
  unfold pieceAt
  rw [h.bs hs i (by omega), h.bs hs (i + 1) (by omega), off_succ _ _ i x hx]
  rw [← List.drop_drop, h.rest]
  have hd : (m.flatMap (Sl.shR leaf).enc).drop (offS (Sl.shR leaf) m i) = (Sl.shR leaf).enc x ++ (m.drop (i + 1)).flatMap (Sl.shR leaf).enc := by
    unfold offS
    conv => lhs; rw [← List.take_append_drop i m, List.flatMap_append]
    rw [List.take_append_drop, List.drop_left, List.drop_eq_getElem_cons hil, List.flatMap_cons, hxe]
  rw [hd, show 2 * c + (offS (Sl.shR leaf) m i + ((Sl.shR leaf).enc x).length) - (2 * c + offS (Sl.shR leaf) m i) = ((Sl.shR leaf).enc x).length by omega, List.take_left]
/-- Where the pieces are cells' bytes, it is the body of the cells. -/
theorem canon_of_cut {leaf : Bool} {s : List UInt8} {c : Nat} (h : CutGood s (c : Int)) (l : List Cl) (hl : l.length = c) (hc : ∀ x ∈ l, canR leaf x) (hp : ∀ i x, l[i]? = some x → pieceAt s c i = (Sl.shR leaf).enc x) : Canon leaf s c l := by
  obtain ⟨_, g1, g2, g3⟩ := h
  rw [Int.toNat_natCast] at g2 g3
  have hle := bs_le s c (fun i hi => g3 i (by rw [bsOf_len] at hi; exact hi))
  have hstep : ∀ i x, l[i]? = some x → (bsOf s c).getD (i + 1) 0 = (bsOf s c).getD i 0 + ((Sl.shR leaf).enc x).length := by
    intro i x hx
    have hil : i < c := by rw [← hl]; exact (List.getElem?_eq_some_iff.1 hx).1
    have h1 := hp i x hx
    have h2 := hle (i + 1) (by omega)
    have h3 := g3 i (by omega)
    rw [← h1]; unfold pieceAt
    rw [List.length_take, List.length_drop]; omega
  have hoff : ∀ i, i ≤ c → (bsOf s c).getD i 0 = 2 * c + offS (Sl.shR leaf) l i := by
    intro i
    induction i with
    | zero => intro _; rw [g2, off_zero]; rfl
    | succ i ih =>
      intro hi
      have hx : l[i]? = some l[i] := List.getElem?_eq_getElem (by omega)
      rw [hstep i _ hx, ih (by omega), off_succ _ _ i _ hx, Nat.add_assoc]
  have hrest : ∀ k i, i + k = c → s.drop ((bsOf s c).getD i 0) = (l.drop i).flatMap (Sl.shR leaf).enc := by
    intro k
    induction k with
    | zero =>
      intro i hi
      obtain rfl : i = c := by omega
      rw [bs_hi, List.drop_length, List.drop_of_length_le (Nat.le_of_eq hl)]; rfl
    | succ k ih =>
      intro i hi
      have hil : i < l.length := by omega
      have hx : l[i]? = some l[i] := List.getElem?_eq_getElem hil
      have h1 := hp i _ hx
      have h2 := ih (i + 1) (by omega)
      have h3 := hstep i _ hx
      unfold pieceAt at h1
      rw [h3, Nat.add_sub_cancel_left] at h1
      rw [h3, ← List.drop_drop] at h2
      rw [List.drop_eq_getElem_cons hil, List.flatMap_cons, ← h2]
      conv => lhs; rw [← List.take_append_drop ((Sl.shR leaf).enc l[i]).length (s.drop ((bsOf s c).getD i 0))]
      rw [h1]
  have hr0 := hrest c 0 (by omega)
  rw [g2, List.drop_zero] at hr0
  have htk : s.take (2 * l.length) = Sl.begins (Sl.shR leaf) (2 * c) l := by
    refine take_begins (Sl.shR leaf) l (2 * c) s (by omega) fun j hj => ?_
    have h1 := hoff j (by omega)
    rw [bs_lo s c j (by omega)] at h1
    rw [← h1]; unfold slotAt
    rw [big_val' 2 _ (by rw [List.length_take, List.length_drop]; omega)]
  refine ⟨hl, hc, ?_⟩
  unfold Sl.body
  rw [← List.take_append_drop (2 * c) s, hr0, hl, ← htk, hl]
end Go.Proofs.Ytppoikhonlgcnaa
