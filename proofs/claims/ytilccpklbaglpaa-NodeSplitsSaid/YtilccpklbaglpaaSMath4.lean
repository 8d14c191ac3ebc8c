/- Where a key is in a row of cells; nothing of the program. -/
import Derived.Test.YtilccpklbaglpaaSMath2
import Derived.Lib.Bytealg
set_option maxRecDepth 100000
set_option maxHeartbeats 4000000
set_option linter.unusedVariables false
namespace Go.Proofs.Ytilccpklbaglpaa
namespace Sl
variable {α : Type}
theorem less_trans : ∀ x y z : List UInt8, less x y = true → less y z = true → less x z = true
  | [], _, [], _, h => by rw [less_nil] at h; cases h
  | [], _, _ :: _, _, _ => rfl
  | _ :: _, [], _, h, _ => by cases h
  | _ :: _, _ :: _, [], _, h => by cases h
  | a :: x, b :: y, c :: z, h, k => by
    simp only [less, Bool.or_eq_true, decide_eq_true_eq, Bool.and_eq_true, beq_iff_eq] at h k ⊢
    rcases h with h | ⟨rfl, h⟩
    · rcases k with k | ⟨rfl, k⟩
      · left; rw [UInt8.lt_iff_toNat_lt] at *; omega
      · exact .inl h
    · rcases k with k | ⟨rfl, k⟩
      · exact .inl k
      · exact .inr ⟨rfl, less_trans x y z h k⟩
theorem cmp_pos : ∀ x y : List UInt8, less x y = true → Lib.compareBytes x y = -1
  | [], [], h => by cases h
  | [], _ :: _, _ => rfl
  | _ :: _, [], h => by cases h
  | a :: x, b :: y, h => by
    simp only [less, Bool.or_eq_true, decide_eq_true_eq, Bool.and_eq_true, beq_iff_eq] at h
    rw [Lib.compareBytes]
    rcases h with h | ⟨rfl, h⟩
    · rw [if_pos h]
    · rw [if_neg (u8_irr a), if_neg (u8_irr a)]; exact cmp_pos x y h
theorem cmp_self : ∀ x : List UInt8, Lib.compareBytes x x = 0
  | [] => rfl
  | a :: x => by rw [Lib.compareBytes, if_neg (u8_irr a), if_neg (u8_irr a)]; exact cmp_self x
theorem cmp_neg : ∀ x y : List UInt8, less y x = true → Lib.compareBytes x y = 1
  | [], [], h => by cases h
  | [], _ :: _, h => by cases h
  | _ :: _, [], _ => rfl
  | a :: x, b :: y, h => by
    simp only [less, Bool.or_eq_true, decide_eq_true_eq, Bool.and_eq_true, beq_iff_eq] at h
    rw [Lib.compareBytes]
    rcases h with h | ⟨rfl, h⟩
    · rw [if_neg (fun h2 => by rw [UInt8.lt_iff_toNat_lt] at h h2; omega), if_pos h]
    · rw [if_neg (u8_irr b), if_neg (u8_irr b)]; exact cmp_neg x y h
theorem cmp_lt (x y : List UInt8) (h : less x y = true) : Lib.compareBytes x y < 0 := by rw [cmp_pos x y h]; decide
theorem cmp_ge (x y : List UInt8) (h : less x y = false) : ¬ Lib.compareBytes x y < 0 := by
  cases k : less y x
  · rw [less_tri x y h k, cmp_self]; decide
  · rw [cmp_neg x y k]; decide
theorem cmp_zero (x y : List UInt8) : (Lib.compareBytes x y == 0) = decide (x = y) := by
  by_cases h : x = y
  · subst h; rw [cmp_self]; simp
  · rw [decide_eq_false h]
    cases k : less x y
    · cases m : less y x
      · exact absurd (less_tri x y k m) h
      · rw [cmp_neg x y m]; rfl
    · rw [cmp_pos x y k]; rfl
def place (S : Sh α) (l : List α) (k : List UInt8) : Nat := (l.takeWhile fun x => less (S.key x) k).length
def there (S : Sh α) (l : List α) (k : List UInt8) : Bool := match l[place S l k]? with
  | some x => decide (S.key x = k)
  | none => false
theorem place_eq (S : Sh α) (k : List UInt8) : ∀ (l : List α) (i : Nat), i ≤ l.length → (∀ m x, m < i → l[m]? = some x → less (S.key x) k = true) → (∀ x, l[i]? = some x → less (S.key x) k = false) → place S l k = i
  | [], i, hi, _, _ => by
    have : i = 0 := by simpa using hi
    subst this; rfl
  | x :: l, 0, _, _, h2 => by
    have := h2 x rfl
    unfold place
    rw [List.takeWhile_cons, this]; rfl
  | x :: l, i + 1, hi, h1, h2 => by
    have hx := h1 0 x (Nat.succ_pos _) rfl
    have ih := place_eq S k l i (by simpa using hi) (fun m y hm hy => h1 (m + 1) y (by omega) (by simpa using hy)) (fun y hy => h2 y (by simpa using hy))
    unfold place at ih ⊢
    rw [List.takeWhile_cons, hx, if_pos rfl, List.length_cons, ih]
theorem place_le (S : Sh α) (l : List α) (k : List UInt8) : place S l k ≤ l.length := (List.takeWhile_prefix _).length_le
theorem there_some (S : Sh α) (l : List α) (k : List UInt8) (x : α) (h : l[place S l k]? = some x) : there S l k = decide (S.key x = k) := by
  unfold there; rw [h]
theorem there_none (S : Sh α) (l : List α) (k : List UInt8) (h : l.length ≤ place S l k) : there S l k = false := by
  unfold there; rw [List.getElem?_eq_none h]
theorem rises_pair (S : Sh α) (l : List α) (h : rises S l = true) : ∀ (d m : Nat) (a b : α), l[m]? = some a → l[m + d + 1]? = some b → less (S.key a) (S.key b) = true
  | 0, m, a, b, ha, hb => (rises_iff S l).1 h m a b ha hb
  | d + 1, m, a, b, ha, hb => by
    have hlt := (List.getElem?_eq_some_iff.1 hb).1
    have hc : l[m + d + 1]? = some (l[m + d + 1]'(by omega)) := List.getElem?_eq_getElem _
    exact less_trans _ _ _ (rises_pair S l h d m a _ ha hc) ((rises_iff S l).1 h (m + d + 1) _ b hc hb)
theorem rises_lt (S : Sh α) (l : List α) (h : rises S l = true) (m n : Nat) (a b : α) (hmn : m < n) (ha : l[m]? = some a) (hb : l[n]? = some b) : less (S.key a) (S.key b) = true :=
  rises_pair S l h (n - m - 1) m a b ha (by rw [show m + (n - m - 1) + 1 = n by omega]; exact hb)
theorem low_of (S : Sh α) (l : List α) (k : List UInt8) (h : rises S l = true) (i : Nat) (x : α) (hx : l[i]? = some x) (hk : less (S.key x) k = true) : ∀ m y, m < i + 1 → l[m]? = some y → less (S.key y) k = true := by
  intro m y hm hy
  by_cases hmi : m = i
  · subst hmi; rw [hx] at hy; cases hy; exact hk
  · exact less_trans _ _ _ (rises_lt S l h m i y x (by omega) hy hx) hk
theorem high_of (S : Sh α) (l : List α) (k : List UInt8) (h : rises S l = true) (i : Nat) (x : α) (hx : l[i]? = some x) (hk : less (S.key x) k = false) : ∀ m y, i ≤ m → l[m]? = some y → less (S.key y) k = false := by
  intro m y hm hy
  by_cases hmi : m = i
  · subst hmi; rw [hx] at hy; cases hy; exact hk
  · cases hyk : less (S.key y) k
    · rfl
    · rw [less_trans _ _ _ (rises_lt S l h i m x y (by omega) hx hy) hyk] at hk; cases hk
end Sl
end Go.Proofs.Ytilccpklbaglpaa
