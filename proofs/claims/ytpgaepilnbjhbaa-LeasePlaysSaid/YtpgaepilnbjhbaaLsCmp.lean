/- How two are compared: numbers, texts, keys; the document's Ahead. -/
import Derived.Test.YtpgaepilnbjhbaaLsBase
import Derived.Test.YtpgaepilnbjhbaaShelf
set_option maxRecDepth 100000
set_option maxHeartbeats 4000000
set_option linter.unusedVariables false
namespace Go.Proofs.Ytpgaepilnbjhbaa
open Go.RowKit
open Ls (Txt Ln Ms tl kl ltL)
def cmp64 (x y : Nat) : Int := if x < y then -1 else if y < x then 1 else 0
def cmpT (x y : Txt) : Int := if tl x y then -1 else if tl y x then 1 else 0
def cmpK (x y : Ln) : Int := if kl x y then -1 else if kl y x then 1 else 0
def cmpO (x y : Nat) (r : Int) : Int := if x < y then -1 else if y < x then 1 else r
theorem cNaN_any (x : Nat) (w : World) : Calls Try.prog 55 #[.int .u64 x] w fun e w' => e = .returned (.bool false) ∧ w = w' := by
  go_enter Try.func55, Try.ntmps55
  go_wp2
  go_ret
  exact ⟨rfl, rfl⟩
theorem cComp_any (x y : Nat) (w : World) : Calls Try.prog 45 #[.int .u64 x, .int .u64 y] w fun e w' => e = .returned (.int .i64 (cmp64 x y)) ∧ w = w' := by
  have hq : cmp64 x y = if x < y then -1 else if y < x then 1 else 0 := rfl
  have HQ := Lib.hid hq
  clear hq
  generalize cmp64 x y = r at HQ ⊢
  by_cases h1 : x < y
  · have i1 : (x : Int) < (y : Int) := by omega
    have hr : r = -1 := by rw [HQ.out, if_pos h1]
    subst hr
    clear h1
    go_enter Try.func45, Try.ntmps45
    go_wp2_with (go_at_call 55; refine (cNaN_any _ _).mono ?_; rintro e w1 ⟨rfl, rfl⟩)
    go_ret
    exact ⟨rfl, rfl⟩
  · have i1 : ¬ (x : Int) < (y : Int) := by omega
    by_cases h2 : y < x
    · have i2 : (y : Int) < (x : Int) := by omega
      have hr : r = 1 := by rw [HQ.out, if_neg h1, if_pos h2]
      subst hr
      clear h1 h2
      go_enter Try.func45, Try.ntmps45
      go_wp2_with (go_at_call 55; refine (cNaN_any _ _).mono ?_; rintro e w1 ⟨rfl, rfl⟩)
      go_ret
      exact ⟨rfl, rfl⟩
    · have i2 : ¬ (y : Int) < (x : Int) := by omega
      have hr : r = 0 := by rw [HQ.out, if_neg h1, if_neg h2]
      subst hr
      clear h1 h2
      go_enter Try.func45, Try.ntmps45
      go_wp2_with (go_at_call 55; refine (cNaN_any _ _).mono ?_; rintro e w1 ⟨rfl, rfl⟩)
      go_ret
      exact ⟨rfl, rfl⟩
theorem sComp_any (x y : Txt) (w : World) : Calls Try.prog 22 #[.string (str x), .string (str y)] w fun e w' => e = .returned (.int .i64 (cmpT x y)) ∧ w' = w := by
  have h := Try.strings_Compare (str x) (str y) w
  rw [str_data, str_data, Ls.compare_tl] at h
  exact h
theorem cmpK_of (a b : Ln) : cmpK a b = if cmpT a.q b.q ≠ 0 then cmpT a.q b.q else cmp64 a.id b.id := by
  unfold cmpK cmpT cmp64 kl
  cases h1 : tl a.q b.q with
  | true => simp
  | false =>
    cases h2 : tl b.q a.q with
    | true =>
      have hne : ¬ a.q = b.q := fun e => by rw [e, Ls.tl_irr] at h2; cases h2
      simp [hne]
    | false =>
      have he := Ls.tl_tri h1 h2
      simp [he]
theorem compare_any (q1 q2 : Txt) (n1 n2 : Nat) (w : World) :
    Calls Try.prog 29 #[.agg #[.string (str q1), .int .u64 n1], .agg #[.string (str q2), .int .u64 n2]] w fun e w' => e = .returned (.int .i64 (if cmpT q1 q2 ≠ 0 then cmpT q1 q2 else cmp64 n1 n2)) ∧ Below w.heap.size w w' := by
  have H1 := Lib.hid (sComp_any q1 q2)
  have H2 := Lib.hid (cComp_any n1 n2)
  generalize cmpT q1 q2 = r1 at H1 ⊢
  generalize cmp64 n1 n2 = r2 at H2 ⊢
  by_cases h : r1 = 0
  · subst h
    have hr : (if (0 : Int) ≠ 0 then (0 : Int) else r2) = r2 := by simp
    rw [hr]
    clear hr
    go_enter Try.func29, Try.ntmps29
    go_wp2_with (first | (go_at_call 22; refine (H1.out _).mono ?_; rintro e w1 ⟨rfl, rfl⟩) | (go_at_call 45; refine (H2.out _).mono ?_; rintro e w1 ⟨rfl, rfl⟩))
    go_ret
    exact ⟨rfl, ((Below.refl _ _).alloc (Nat.le_refl _) _).alloc (by simp) _⟩
  · rw [if_pos h]
    go_enter Try.func29, Try.ntmps29
    go_wp2_with (go_at_call 22; refine (H1.out _).mono ?_; rintro e w1 ⟨rfl, rfl⟩)
    go_ret
    exact ⟨rfl, ((Below.refl _ _).alloc (Nat.le_refl _) _).alloc (by simp) _⟩
theorem compareL_any (a b : Ln) (w : World) :
    Calls Try.prog 29 #[.agg #[.string (str a.q), .int .u64 a.id], .agg #[.string (str b.q), .int .u64 b.id]] w fun e w' => e = .returned (.int .i64 (cmpK a b)) ∧ Below w.heap.size w w' := by
  rw [cmpK_of]; exact compare_any _ _ _ _ w
theorem bl (a b : Txt) : Op.bytesLess (str a).toList (str b).toList = tl a b := by rw [strL, strL]; rfl
theorem str_ne {x y : Txt} (h : x ≠ y) : ((str x).toList == (str y).toList) = false := by rw [strL, strL]; simpa using h
theorem str_same (x : Txt) : ((str x).toList == (str x).toList) = true := by simp
theorem ahead_any (a b : Ln) (w : World) :
    Calls Try.prog 28 #[.agg #[.string (str a.q), .int .u64 a.id, .int .u64 a.t], .agg #[.string (str b.q), .int .u64 b.id, .int .u64 b.t]] w fun e w' => e = .returned (.bool (ltL a b)) ∧ Below w.heap.size w w' := by
  obtain ⟨q1, n1, t1⟩ := a
  obtain ⟨q2, n2, t2⟩ := b
  by_cases ht : t1 = t2
  · subst ht
    have hL : ltL ⟨q1, n1, t1⟩ ⟨q2, n2, t1⟩ = kl ⟨q1, n1, t1⟩ ⟨q2, n2, t1⟩ := by simp [ltL]
    rw [hL]
    clear hL
    cases h1 : tl q1 q2 with
    | true =>
      have hk : kl ⟨q1, n1, t1⟩ ⟨q2, n2, t1⟩ = true := by simp [kl, h1]
      rw [hk]
      have hb := (bl q1 q2).trans h1
      clear hk h1
      go_enter Try.func28, Try.ntmps28
      go_wp2
      go_ret
      exact ⟨rfl, ((Below.refl _ _).alloc (Nat.le_refl _) _).alloc (by simp) _⟩
    | false =>
      have hb := (bl q1 q2).trans h1
      by_cases he : q1 = q2
      · subst he
        have hk : kl ⟨q1, n1, t1⟩ ⟨q1, n2, t1⟩ = decide (n1 < n2) := by simp [kl, h1]
        rw [hk]
        have hs := str_same q1
        clear hk h1
        go_enter Try.func28, Try.ntmps28
        go_wp2
        go_ret
        exact ⟨rfl, ((Below.refl _ _).alloc (Nat.le_refl _) _).alloc (by simp) _⟩
      · have hk : kl ⟨q1, n1, t1⟩ ⟨q2, n2, t1⟩ = false := by simp [kl, h1, he]
        rw [hk]
        have hs := str_ne he
        clear hk h1 he
        go_enter Try.func28, Try.ntmps28
        go_wp2
        go_ret
        exact ⟨rfl, ((Below.refl _ _).alloc (Nat.le_refl _) _).alloc (by simp) _⟩
  · have hL : ltL ⟨q1, n1, t1⟩ ⟨q2, n2, t2⟩ = decide (t1 < t2) := by simp [ltL, ht]
    rw [hL]
    have hi : ¬ (t1 : Int) = (t2 : Int) := by omega
    clear hL ht
    go_enter Try.func28, Try.ntmps28
    go_wp2
    go_ret
    exact ⟨rfl, ((Below.refl _ _).alloc (Nat.le_refl _) _).alloc (by simp) _⟩
end Go.Proofs.Ytpgaepilnbjhbaa
