/- Plain facts of bodies of cells, for the walks of Body; nothing of the program. -/
import Derived.Test.YtdkkcogjkeonkaaSMath
set_option maxRecDepth 100000
set_option maxHeartbeats 4000000
set_option linter.unusedVariables false
namespace Go.Proofs.Ytdkkcogjkeonkaa
namespace Sl
open Oc
variable {α : Type}
def bodyR (S : Sh α) (l : List α) : List UInt8 × Int :=
  if right S l ≠ 0 then ([], right S l) else if 4072 < sum S l then ([], 14) else (body S l, 0)
theorem bodyR_bad (S : Sh α) (l : List α) (h : right S l ≠ 0) : bodyR S l = ([], right S l) := by unfold bodyR; rw [if_pos h]
theorem bodyR_full (S : Sh α) (l : List α) (h : right S l = 0) (h2 : 4072 < sum S l) : bodyR S l = ([], 14) := by unfold bodyR; rw [if_neg (by rw [h]; decide), if_pos h2]
theorem bodyR_ok (S : Sh α) (l : List α) (h : right S l = 0) (h2 : ¬ 4072 < sum S l) : bodyR S l = (body S l, 0) := by unfold bodyR; rw [if_neg (by rw [h]; decide), if_neg h2]
theorem encC_pos (c : Cl) : 1 ≤ (encC c).length := by
  unfold encC; split <;> simp only [List.length_append, big_length, encKey_len] <;> omega
theorem encK_pos (k : Kd) : 1 ≤ (encK k).length := by
  unfold encK; simp only [List.length_append, big_length, encKey_len]; omega
theorem at_le (S : Sh α) (l : List α) (k : Nat) (h : sum S l ≤ 4072) : 2 * l.length + ((l.take k).flatMap S.enc).length ≤ 4072 := by
  have h1 := sum_eq S l
  have h2 : ((l.take k).flatMap S.enc).length ≤ (l.flatMap S.enc).length := by
    conv => rhs; rw [← List.take_append_drop k l, List.flatMap_append, List.length_append]
    omega
  omega
theorem begins_at (S : Sh α) (l : List α) (k : Nat) (x : α) (h : l[k]? = some x) (n : Nat) : begins S n (l.take (k + 1)) = begins S n (l.take k) ++ big 2 (n + ((l.take k).flatMap S.enc).length) := by
  rw [take_snoc' l k x h, begins_snoc]
theorem flat_at (S : Sh α) (l : List α) (k : Nat) (x : α) (h : l[k]? = some x) : (l.take (k + 1)).flatMap S.enc = (l.take k).flatMap S.enc ++ S.enc x := by
  rw [take_snoc' l k x h, flat_snoc]
theorem u8_irr (a : UInt8) : ¬ a < a := fun h => by rw [UInt8.lt_iff_toNat_lt] at h; omega
theorem less_self : ∀ u : List UInt8, less u u = false
  | [] => rfl
  | a :: u => by simp [less, u8_irr a, less_self u]
theorem less_asym : ∀ x y : List UInt8, less x y = true → less y x = false
  | [], [], _ => rfl
  | [], _ :: _, _ => rfl
  | _ :: _, [], h => by cases h
  | a :: x, b :: y, h => by
    simp only [less, Bool.or_eq_true, decide_eq_true_eq, Bool.and_eq_true, beq_iff_eq] at h
    rcases h with h | ⟨rfl, h⟩
    · have h1 : ¬ b < a := fun h2 => by rw [UInt8.lt_iff_toNat_lt] at h h2; omega
      have h2 : ¬ b = a := fun h2 => u8_irr a (h2 ▸ h)
      simp [less, h1, h2]
    · simp [less, u8_irr a, less_asym x y h]
theorem less_tri : ∀ x y : List UInt8, less x y = false → less y x = false → x = y
  | [], [], _, _ => rfl
  | [], _ :: _, h, _ => by cases h
  | _ :: _, [], _, h => by cases h
  | a :: x, b :: y, h, k => by
    simp only [less, Bool.or_eq_false_iff, decide_eq_false_iff_not, Bool.and_eq_false_imp, beq_iff_eq] at h k
    have hab : a = b := by
      have h1 := h.1
      have h2 := k.1
      rw [UInt8.lt_iff_toNat_lt] at h1 h2
      exact UInt8.toNat_inj.1 (by omega)
    rw [hab, less_tri x y (h.2 hab) (k.2 hab.symm)]
end Sl
end Go.Proofs.Ytdkkcogjkeonkaa
