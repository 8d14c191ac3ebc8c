/- Plain facts on texts: what stands behind a beginning, and next to a key; nothing of the program. -/
import Derived.Test.YtfoijhofpjaldaaDoorAfter
set_option maxRecDepth 100000
set_option maxHeartbeats 4000000
set_option linter.unusedVariables false
namespace Go.Proofs.YtfoijhofpjaldaaDoor
open Go.Proofs.YtfoijhofpjaldaaDoor.Ord
theorem lt_irr (a : UInt8) : ¬ a < a := fun h => by rw [UInt8.lt_iff_toNat_lt] at h; omega
theorem aft_spec : ∀ p t : List UInt8, (less t p = false ∧ ((aft p).2 = false ∨ less t (aft p).1 = true)) ↔ p <+: t
  | [], t => by simp [aft, less_nil]
  | b :: p, [] => by simp [less]
  | b :: p, c :: t => by
    have ih := aft_spec p t
    rw [List.cons_prefix_cons]
    by_cases hcb : c = b
    · subst hcb
      rw [show less (c :: t) (c :: p) = less t p by simp [less]]
      by_cases h2 : (aft p).2 = true
      · rw [show aft (c :: p) = (c :: (aft p).1, true) by simp [aft, h2]]
        rw [show less (c :: t) (c :: (aft p).1) = less t (aft p).1 by simp [less]]
        simp only [h2, Bool.true_eq_false, false_or] at ih ⊢
        rw [ih]; simp
      · have h2' : (aft p).2 = false := by simpa using h2
        simp only [h2', true_or, and_true] at ih
        by_cases hb : c = 255
        · rw [show aft (c :: p) = ([], false) by simp [aft, h2', hb]]
          simp only [true_or, and_true]
          rw [ih]; simp
        · rw [show aft (c :: p) = ([c + 1], true) by simp [aft, h2', hb]]
          have hlt : c < c + 1 := by
            rw [UInt8.lt_iff_toNat_lt, UInt8.toNat_add]
            have := c.toNat_lt
            have h3 : c.toNat ≠ 255 := fun h => hb (UInt8.toNat_inj.1 h)
            simp; omega
          rw [show less (c :: t) [c + 1] = true by simp [less, hlt]]
          simp only [or_true, and_true]
          rw [ih]; simp
    · rcases ne_cases hcb with h | h
      · rw [show less (c :: t) (b :: p) = true by simp [less, h]]
        constructor
        · rintro ⟨h1, _⟩; cases h1
        · rintro ⟨h1, _⟩; exact absurd h1.symm hcb
      · have hn : ¬ c < b := fun h' => by rw [UInt8.lt_iff_toNat_lt] at h h'; omega
        constructor
        · rintro ⟨_, h1⟩
          exfalso
          by_cases h2 : (aft p).2 = true
          · rw [show aft (b :: p) = (b :: (aft p).1, true) by simp [aft, h2]] at h1
            simp [less, hn, hcb] at h1
          · have h2' : (aft p).2 = false := by simpa using h2
            by_cases hb : b = 255
            · subst hb
              rw [UInt8.lt_iff_toNat_lt] at h
              have := c.toNat_lt
              have h3 : (255 : UInt8).toNat = 255 := rfl
              omega
            · rw [show aft (b :: p) = ([b + 1], true) by simp [aft, h2', hb]] at h1
              have hle : ¬ c < b + 1 := by
                rw [UInt8.lt_iff_toNat_lt, UInt8.toNat_add]
                rw [UInt8.lt_iff_toNat_lt] at h
                have := b.toNat_lt
                have h3 : b.toNat ≠ 255 := fun h => hb (UInt8.toNat_inj.1 h)
                simp; omega
              simp [less, hle, less_nil] at h1
        · rintro ⟨h1, _⟩; exact absurd h1.symm hcb
theorem next_less (s : List UInt8) : less s (s ++ [0]) = true := by
  have := less_app s [] [0]
  rw [List.append_nil] at this
  rw [this]; rfl
theorem next_none : ∀ s t : List UInt8, less t (s ++ [0]) = true → less s t = false
  | [], [], _ => rfl
  | [], c :: t, h => by
    simp only [List.nil_append, less, less_nil, Bool.and_false, Bool.or_false, decide_eq_true_eq] at h
    rw [UInt8.lt_iff_toNat_lt] at h
    exact absurd h (Nat.not_lt_zero _)
  | b :: s, [], _ => rfl
  | b :: s, c :: t, h => by
    simp only [List.cons_append, less, Bool.or_eq_true, decide_eq_true_eq, Bool.and_eq_true, beq_iff_eq] at h
    rcases h with h | ⟨rfl, h⟩
    · have h1 : ¬ b < c := fun h' => by rw [UInt8.lt_iff_toNat_lt] at h h'; omega
      have h2 : ¬ b = c := fun h' => by subst h'; exact lt_irr _ h
      simp [less, h1, h2]
    · have := next_none s t h
      simp [less, this]
theorem front_less (p s : List UInt8) : less (p ++ s) p = false := by
  have := less_app p s []
  rw [List.append_nil] at this
  rw [this, less_nil]
theorem op_less : ∀ x y : List UInt8, Op.bytesLess x y = less x y
  | [], [] => rfl
  | [], _ :: _ => rfl
  | _ :: _, [] => rfl
  | a :: x, b :: y => by rw [Op.bytesLess, less, op_less x y]
end Go.Proofs.YtfoijhofpjaldaaDoor
