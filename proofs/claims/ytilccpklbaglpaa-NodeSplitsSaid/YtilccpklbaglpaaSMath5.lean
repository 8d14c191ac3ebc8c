/- What stands ahead of a key's place, at it and behind it; nothing of the program. -/
import Derived.Test.YtilccpklbaglpaaSMath4
set_option maxRecDepth 100000
set_option maxHeartbeats 4000000
set_option linter.unusedVariables false
namespace Go.Proofs.Ytilccpklbaglpaa
namespace Sl
variable {α : Type}
theorem place_low (S : Sh α) (k : List UInt8) : ∀ (l : List α) (m : Nat) (x : α), m < place S l k → l[m]? = some x → less (S.key x) k = true
  | [], m, x, h, _ => by unfold place at h; simp at h
  | y :: l, m, x, h, hx => by
    unfold place at h
    rw [List.takeWhile_cons] at h
    cases hy : less (S.key y) k
    · rw [hy] at h; simp at h
    · rw [hy, if_pos rfl, List.length_cons] at h
      cases m with
      | zero => simp at hx; subst hx; exact hy
      | succ m => exact place_low S k l m x (by unfold place; omega) (by simpa using hx)
theorem place_at (S : Sh α) (k : List UInt8) : ∀ (l : List α) (x : α), l[place S l k]? = some x → less (S.key x) k = false
  | [], x, h => by simp at h
  | y :: l, x, h => by
    unfold place at h
    rw [List.takeWhile_cons] at h
    cases hy : less (S.key y) k
    · rw [hy] at h; simp at h; subst h; exact hy
    · rw [hy, if_pos rfl, List.length_cons, List.getElem?_cons_succ] at h
      exact place_at S k l x h
theorem low_ne (x k : List UInt8) (h : less x k = true) : x ≠ k := fun e => by rw [e, less_self] at h; cases h
theorem place_high (S : Sh α) (l : List α) (k : List UInt8) (h : rises S l = true) (m : Nat) (x : α) (hm : place S l k < m) (hx : l[m]? = some x) : less (S.key x) k = false ∧ S.key x ≠ k := by
  have hlt := (List.getElem?_eq_some_iff.1 hx).1
  have hp : l[place S l k]? = some (l[place S l k]'(by omega)) := List.getElem?_eq_getElem _
  have h1 := place_at S k l _ hp
  refine ⟨high_of S l k h _ _ hp h1 m x (by omega) hx, fun e => ?_⟩
  have h2 := rises_lt S l h _ m _ x hm hp hx
  rw [e] at h2
  rw [h2] at h1; cases h1
end Sl
end Go.Proofs.Ytilccpklbaglpaa
