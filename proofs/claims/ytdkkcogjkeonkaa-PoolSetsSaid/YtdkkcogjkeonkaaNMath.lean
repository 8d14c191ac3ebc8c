/- Where a row of cells is cut in two. -/
import Derived.Test.YtdkkcogjkeonkaaSMath
set_option maxRecDepth 100000
set_option maxHeartbeats 4000000
set_option linter.unusedVariables false
namespace Go.Proofs.Ytdkkcogjkeonkaa.Sl
variable {α β : Type}
def dif (S : Sh α) (l : List α) (i : Nat) : Nat := ((2 * sum S (l.take i) : Nat) - (sum S l : Nat) : Int).natAbs
def best (d : Nat → Nat) : Nat → Nat × Nat
  | 0 => (0, 0)
  | 1 => (1, d 1)
  | k + 2 => if d (k + 2) < (best d (k + 1)).2 then (k + 2, d (k + 2)) else best d (k + 1)
theorem best_bd (d : Nat → Nat) : ∀ k, 1 ≤ k → 1 ≤ (best d k).1 ∧ (best d k).1 ≤ k
  | 0, h => absurd h (by decide)
  | 1, _ => ⟨Nat.le_refl _, Nat.le_refl _⟩
  | k + 2, _ => by
    unfold best
    have ih := best_bd d (k + 1) (Nat.succ_le_succ (Nat.zero_le _))
    split
    · exact ⟨Nat.succ_le_succ (Nat.zero_le _), Nat.le_refl _⟩
    · exact ⟨ih.1, Nat.le_succ_of_le ih.2⟩
theorem best_one (d : Nat → Nat) : best d 1 = (1, d 1) := rfl
theorem best_less (d : Nat → Nat) (k : Nat) (hk : 1 ≤ k) (h : d (k + 1) < (best d k).2) : best d (k + 1) = (k + 1, d (k + 1)) := by
  obtain ⟨k, rfl⟩ : ∃ j, k = j + 1 := ⟨k - 1, by omega⟩
  show (if _ then _ else _) = _
  rw [if_pos h]
theorem best_keep (d : Nat → Nat) (k : Nat) (hk : 1 ≤ k) (h : ¬ d (k + 1) < (best d k).2) : best d (k + 1) = best d k := by
  obtain ⟨k, rfl⟩ : ∃ j, k = j + 1 := ⟨k - 1, by omega⟩
  show (if _ then _ else _) = _
  rw [if_neg h]
/-- The two numbers that the walk keeps: behind j cuts looked at. -/
def st (S : Sh α) (l : List α) (j : Nat) : Nat × Nat := if j = 0 then (l.length, 0) else best (dif S l) j
theorem st_zero (S : Sh α) (l : List α) : st S l 0 = (l.length, 0) := rfl
theorem st_first (S : Sh α) (l : List α) : st S l 1 = (1, dif S l 1) := rfl
theorem st_less (S : Sh α) (l : List α) (j : Nat) (hj : j ≠ 0) (h : dif S l (j + 1) < (st S l j).2) : st S l (j + 1) = (j + 1, dif S l (j + 1)) := by
  unfold st at h ⊢
  rw [if_neg hj] at h
  rw [if_neg (Nat.succ_ne_zero j)]
  exact best_less _ j (by omega) h
theorem st_keep (S : Sh α) (l : List α) (j : Nat) (hj : j ≠ 0) (h : ¬ dif S l (j + 1) < (st S l j).2) : st S l (j + 1) = st S l j := by
  unfold st at h ⊢
  rw [if_neg hj] at h
  rw [if_neg (Nat.succ_ne_zero j), if_neg hj]
  exact best_keep _ j (by omega) h
def cutAt (S : Sh α) (l : List α) : Nat := if l.length < 2 then l.length else (best (dif S l) (l.length - 1)).1
theorem cutAt_le (S : Sh α) (l : List α) : cutAt S l ≤ l.length := by
  unfold cutAt
  split
  · exact Nat.le_refl _
  · have := (best_bd (dif S l) (l.length - 1) (by omega)).2; omega
theorem cutAt_pos (S : Sh α) (l : List α) (h : 2 ≤ l.length) : 1 ≤ cutAt S l ∧ cutAt S l < l.length := by
  unfold cutAt
  rw [if_neg (by omega)]
  have := best_bd (dif S l) (l.length - 1) (by omega)
  omega
theorem cutAt_st (S : Sh α) (l : List α) : cutAt S l = (st S l (l.length - 1)).1 := by
  unfold cutAt st
  by_cases h : l.length < 2
  · rw [if_pos h, if_pos (by omega)]
  · rw [if_neg h, if_neg (by omega)]
theorem sum_app (S : Sh α) (l m : List α) : sum S (l ++ m) = sum S l + sum S m := by
  unfold sum; rw [List.map_append, List.sum_append]
theorem sum_cut (S : Sh α) (l : List α) (i : Nat) : sum S (l.take i) + sum S (l.drop i) = sum S l := by
  rw [← sum_app, List.take_append_drop]
end Go.Proofs.Ytdkkcogjkeonkaa.Sl
