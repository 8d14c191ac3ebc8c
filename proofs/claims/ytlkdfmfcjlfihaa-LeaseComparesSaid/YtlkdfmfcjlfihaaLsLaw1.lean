/- LeaseCompares: the law's walk. -/
import Derived.Test.YtlkdfmfcjlfihaaLsAwk
set_option maxRecDepth 100000
set_option maxHeartbeats 4000000
set_option linter.unusedVariables false
namespace Go.Proofs.Ytlkdfmfcjlfihaa
open Go.RowKit
open Ls (Txt Ln Ms kl tl ltL)
theorem cmpK_neg (a b : Ln) : cmpK b a = -cmpK a b := by
  unfold cmpK
  cases h : kl a b with
  | true => rw [Ls.kl_asy h]; simp
  | false => cases kl b a <;> simp
theorem comp_parts (a b : Ln) (h0 : a.t = 0) (h1 : b.t = 0) : (kl a b = true ∧ cmpK a b = -1 ∧ ltL a b = true ∧ ¬ (a.q = b.q ∧ a.id = b.id)) ∨ (a.q = b.q ∧ a.id = b.id ∧ cmpK a b = 0 ∧ ltL a b = false) ∨ (cmpK a b = 1 ∧ ltL a b = false ∧ ¬ (a.q = b.q ∧ a.id = b.id)) := by
  have hl : ltL a b = kl a b := by simp [ltL, h0, h1]
  rw [hl]
  unfold cmpK
  cases h : kl a b with
  | true =>
    refine .inl ⟨rfl, by simp, rfl, fun e => ?_⟩
    have : kl a b = kl a a := by unfold kl; rw [← e.1, ← e.2]
    rw [this, Ls.kl_irr] at h; cases h
  | false =>
    cases h2 : kl b a with
    | true =>
      refine .inr (.inr ⟨by simp, rfl, fun e => ?_⟩)
      have : kl b a = kl a a := by unfold kl; rw [← e.1, ← e.2]
      rw [this, Ls.kl_irr] at h2; cases h2
    | false =>
      obtain ⟨e1, e2⟩ := Ls.kl_tri h h2
      exact .inr (.inl ⟨e1, e2, by simp, rfl⟩)
set_option maxHeartbeats 8000000 in
theorem comp_walk (q1 q2 : Txt) (n1 n2 : Nat) (W : World) :
    Calls Try.prog 5 #[.agg #[.string (str q1), .int .u64 n1], .agg #[.string (str q2), .int .u64 n2]] W fun e W' => e = .returned (.bool true) ∧ Below W.heap.size W W' := by
  have HA := Lib.hid (fun w => awake_any w)
  obtain ⟨W0, hW0⟩ : ∃ W0, W0 = (W.alloc (.cells #[.string (str q1), .int .u64 n1] 34)).alloc (.cells #[.string (str q2), .int .u64 n2] 34) := ⟨_, rfl⟩
  have HB0 : Hid (Below W.heap.size W W0) := by show Below _ _ _; rw [hW0]; exact (below_alloc _ _).alloc (by simp) _
  have HX : Hid (Boxed2 W0 W.heap.size 34 (.string (str q1)) (.int .u64 n1)) := by show Boxed2 _ _ _ _ _; rw [hW0]; exact (Boxed2.new _ _ _ _).alloc _
  have HY : Hid (Boxed2 W0 (W.heap.size + 1) 34 (.string (str q2)) (.int .u64 n2)) := by show Boxed2 _ _ _ _ _; rw [hW0]; exact boxed2_at (Boxed2.new _ _ _ _) (by simp)
  have hz1 : (str q1).size = q1.length := rfl
  have hz2 : (str q2).size = q2.length := rfl
  have HAH := Lib.hid (fun w => ahead_any ⟨q1, n1, 0⟩ ⟨q2, n2, 0⟩ w)
  have HC1 := Lib.hid (fun w => compareL_any ⟨q1, n1, 0⟩ ⟨q2, n2, 0⟩ w)
  have HC2 := Lib.hid (fun w => compareL_any ⟨q2, n2, 0⟩ ⟨q1, n1, 0⟩ w)
  rw [cmpK_neg ⟨q1, n1, 0⟩ ⟨q2, n2, 0⟩] at HC2
  have hp := comp_parts ⟨q1, n1, 0⟩ ⟨q2, n2, 0⟩ rfl rfl
  simp only at hp HC1 HC2 HAH
  generalize cmpK ⟨q1, n1, 0⟩ ⟨q2, n2, 0⟩ = r at hp HC1 HC2
  generalize ltL ⟨q1, n1, 0⟩ ⟨q2, n2, 0⟩ = lt at hp HAH
  by_cases l1 : (300 : Int) < (q1.length : Int)
  · clear HAH HC1 HC2 hp
    go_enter Try.func5, Try.ntmps5
    go_wp2_with (go_at_call 6; (with_reducible refine (HA.out _).mono ?_); rintro e w1 ⟨rfl, hb1⟩; have hb1' : Below W0.heap.size W0 w1 := (by rw [hW0]; exact hb1); have HX1 := Lib.hid (HX.out.below hb1'); have HY1 := Lib.hid (HY.out.below hb1'); have HB1 := Lib.hid (on HB0.out (Nat.le_refl _) hb1'); have x0 := HX1.out.c0; have x1 := HX1.out.c1; have y0 := HY1.out.c0; have y1 := HY1.out.c1; clear hb1 hb1')
    go_ret
    exact ⟨rfl, HB1.out⟩
  by_cases l2 : (300 : Int) < (q2.length : Int)
  · clear HAH HC1 HC2 hp
    go_enter Try.func5, Try.ntmps5
    go_wp2_with (go_at_call 6; (with_reducible refine (HA.out _).mono ?_); rintro e w1 ⟨rfl, hb1⟩; have hb1' : Below W0.heap.size W0 w1 := (by rw [hW0]; exact hb1); have HX1 := Lib.hid (HX.out.below hb1'); have HY1 := Lib.hid (HY.out.below hb1'); have HB1 := Lib.hid (on HB0.out (Nat.le_refl _) hb1'); have x0 := HX1.out.c0; have x1 := HX1.out.c1; have y0 := HY1.out.c0; have y1 := HY1.out.c1; clear hb1 hb1')
    go_ret
    exact ⟨rfl, HB1.out⟩
  rcases hp with ⟨_, rfl, rfl, hne⟩ | ⟨rfl, rfl, rfl, rfl⟩ | ⟨rfl, rfl, hne⟩
  · by_cases hq : q1 = q2
    · subst hq
      have hid : ¬ (n1 : Int) = (n2 : Int) := fun h => hne ⟨rfl, by omega⟩
      have hs := str_same q1
      clear hne
      go_enter Try.func5, Try.ntmps5
      go_wp2_with (first | (go_at_call 29; (with_reducible refine (HC2.out _).mono ?_); rintro e w4 ⟨rfl, hb4⟩; have HB4 := Lib.hid (on HB3.out (Nat.le_refl _) hb4); clear hb4) | (go_at_call 29; (with_reducible refine (HC1.out _).mono ?_); rintro e w3 ⟨rfl, hb3⟩; have HX3 := Lib.hid (HX2.out.below hb3); have HY3 := Lib.hid (HY2.out.below hb3); have HB3 := Lib.hid (on HB2.out (Nat.le_refl _) hb3); have p0 := HX3.out.c0; have p1 := HX3.out.c1; have q0 := HY3.out.c0; have q1' := HY3.out.c1; clear hb3) | (go_at_call 28; (refine (HAH.out _).mono ?_); rintro e w2 ⟨rfl, hb2⟩; have HX2 := Lib.hid (HX1.out.below hb2); have HY2 := Lib.hid (HY1.out.below hb2); have HB2 := Lib.hid (on HB1.out (Nat.le_refl _) hb2); have u0 := HX2.out.c0; have u1 := HX2.out.c1; have t0 := HY2.out.c0; have t1 := HY2.out.c1; clear hb2) | (go_at_call 6; (with_reducible refine (HA.out _).mono ?_); rintro e w1 ⟨rfl, hb1⟩; have hb1' : Below W0.heap.size W0 w1 := (by rw [hW0]; exact hb1); have HX1 := Lib.hid (HX.out.below hb1'); have HY1 := Lib.hid (HY.out.below hb1'); have HB1 := Lib.hid (on HB0.out (Nat.le_refl _) hb1'); have x0 := HX1.out.c0; have x1 := HX1.out.c1; have y0 := HY1.out.c0; have y1 := HY1.out.c1; clear hb1 hb1'))
      go_ret
      exact ⟨rfl, HB4.out⟩
    · have hs := str_ne hq
      clear hne
      go_enter Try.func5, Try.ntmps5
      go_wp2_with (first | (go_at_call 29; (with_reducible refine (HC2.out _).mono ?_); rintro e w4 ⟨rfl, hb4⟩; have HB4 := Lib.hid (on HB3.out (Nat.le_refl _) hb4); clear hb4) | (go_at_call 29; (with_reducible refine (HC1.out _).mono ?_); rintro e w3 ⟨rfl, hb3⟩; have HX3 := Lib.hid (HX2.out.below hb3); have HY3 := Lib.hid (HY2.out.below hb3); have HB3 := Lib.hid (on HB2.out (Nat.le_refl _) hb3); have p0 := HX3.out.c0; have p1 := HX3.out.c1; have q0 := HY3.out.c0; have q1' := HY3.out.c1; clear hb3) | (go_at_call 28; (refine (HAH.out _).mono ?_); rintro e w2 ⟨rfl, hb2⟩; have HX2 := Lib.hid (HX1.out.below hb2); have HY2 := Lib.hid (HY1.out.below hb2); have HB2 := Lib.hid (on HB1.out (Nat.le_refl _) hb2); have u0 := HX2.out.c0; have u1 := HX2.out.c1; have t0 := HY2.out.c0; have t1 := HY2.out.c1; clear hb2) | (go_at_call 6; (with_reducible refine (HA.out _).mono ?_); rintro e w1 ⟨rfl, hb1⟩; have hb1' : Below W0.heap.size W0 w1 := (by rw [hW0]; exact hb1); have HX1 := Lib.hid (HX.out.below hb1'); have HY1 := Lib.hid (HY.out.below hb1'); have HB1 := Lib.hid (on HB0.out (Nat.le_refl _) hb1'); have x0 := HX1.out.c0; have x1 := HX1.out.c1; have y0 := HY1.out.c0; have y1 := HY1.out.c1; clear hb1 hb1'))
      go_ret
      exact ⟨rfl, HB4.out⟩
  · have hs := str_same q1
    go_enter Try.func5, Try.ntmps5
    go_wp2_with (first | (go_at_call 29; (with_reducible refine (HC2.out _).mono ?_); rintro e w4 ⟨rfl, hb4⟩; have HB4 := Lib.hid (on HB3.out (Nat.le_refl _) hb4); clear hb4) | (go_at_call 29; (with_reducible refine (HC1.out _).mono ?_); rintro e w3 ⟨rfl, hb3⟩; have HX3 := Lib.hid (HX2.out.below hb3); have HY3 := Lib.hid (HY2.out.below hb3); have HB3 := Lib.hid (on HB2.out (Nat.le_refl _) hb3); have p0 := HX3.out.c0; have p1 := HX3.out.c1; have q0 := HY3.out.c0; have q1' := HY3.out.c1; clear hb3) | (go_at_call 28; (refine (HAH.out _).mono ?_); rintro e w2 ⟨rfl, hb2⟩; have HX2 := Lib.hid (HX1.out.below hb2); have HY2 := Lib.hid (HY1.out.below hb2); have HB2 := Lib.hid (on HB1.out (Nat.le_refl _) hb2); have u0 := HX2.out.c0; have u1 := HX2.out.c1; have t0 := HY2.out.c0; have t1 := HY2.out.c1; clear hb2) | (go_at_call 6; (with_reducible refine (HA.out _).mono ?_); rintro e w1 ⟨rfl, hb1⟩; have hb1' : Below W0.heap.size W0 w1 := (by rw [hW0]; exact hb1); have HX1 := Lib.hid (HX.out.below hb1'); have HY1 := Lib.hid (HY.out.below hb1'); have HB1 := Lib.hid (on HB0.out (Nat.le_refl _) hb1'); have x0 := HX1.out.c0; have x1 := HX1.out.c1; have y0 := HY1.out.c0; have y1 := HY1.out.c1; clear hb1 hb1'))
    go_ret
    exact ⟨rfl, HB4.out⟩
  · by_cases hq : q1 = q2
    · subst hq
      have hid : ¬ (n1 : Int) = (n2 : Int) := fun h => hne ⟨rfl, by omega⟩
      have hs := str_same q1
      clear hne
      go_enter Try.func5, Try.ntmps5
      go_wp2_with (first | (go_at_call 29; (with_reducible refine (HC2.out _).mono ?_); rintro e w4 ⟨rfl, hb4⟩; have HB4 := Lib.hid (on HB3.out (Nat.le_refl _) hb4); clear hb4) | (go_at_call 29; (with_reducible refine (HC1.out _).mono ?_); rintro e w3 ⟨rfl, hb3⟩; have HX3 := Lib.hid (HX2.out.below hb3); have HY3 := Lib.hid (HY2.out.below hb3); have HB3 := Lib.hid (on HB2.out (Nat.le_refl _) hb3); have p0 := HX3.out.c0; have p1 := HX3.out.c1; have q0 := HY3.out.c0; have q1' := HY3.out.c1; clear hb3) | (go_at_call 28; (refine (HAH.out _).mono ?_); rintro e w2 ⟨rfl, hb2⟩; have HX2 := Lib.hid (HX1.out.below hb2); have HY2 := Lib.hid (HY1.out.below hb2); have HB2 := Lib.hid (on HB1.out (Nat.le_refl _) hb2); have u0 := HX2.out.c0; have u1 := HX2.out.c1; have t0 := HY2.out.c0; have t1 := HY2.out.c1; clear hb2) | (go_at_call 6; (with_reducible refine (HA.out _).mono ?_); rintro e w1 ⟨rfl, hb1⟩; have hb1' : Below W0.heap.size W0 w1 := (by rw [hW0]; exact hb1); have HX1 := Lib.hid (HX.out.below hb1'); have HY1 := Lib.hid (HY.out.below hb1'); have HB1 := Lib.hid (on HB0.out (Nat.le_refl _) hb1'); have x0 := HX1.out.c0; have x1 := HX1.out.c1; have y0 := HY1.out.c0; have y1 := HY1.out.c1; clear hb1 hb1'))
      go_ret
      exact ⟨rfl, HB4.out⟩
    · have hs := str_ne hq
      clear hne
      go_enter Try.func5, Try.ntmps5
      go_wp2_with (first | (go_at_call 29; (with_reducible refine (HC2.out _).mono ?_); rintro e w4 ⟨rfl, hb4⟩; have HB4 := Lib.hid (on HB3.out (Nat.le_refl _) hb4); clear hb4) | (go_at_call 29; (with_reducible refine (HC1.out _).mono ?_); rintro e w3 ⟨rfl, hb3⟩; have HX3 := Lib.hid (HX2.out.below hb3); have HY3 := Lib.hid (HY2.out.below hb3); have HB3 := Lib.hid (on HB2.out (Nat.le_refl _) hb3); have p0 := HX3.out.c0; have p1 := HX3.out.c1; have q0 := HY3.out.c0; have q1' := HY3.out.c1; clear hb3) | (go_at_call 28; (refine (HAH.out _).mono ?_); rintro e w2 ⟨rfl, hb2⟩; have HX2 := Lib.hid (HX1.out.below hb2); have HY2 := Lib.hid (HY1.out.below hb2); have HB2 := Lib.hid (on HB1.out (Nat.le_refl _) hb2); have u0 := HX2.out.c0; have u1 := HX2.out.c1; have t0 := HY2.out.c0; have t1 := HY2.out.c1; clear hb2) | (go_at_call 6; (with_reducible refine (HA.out _).mono ?_); rintro e w1 ⟨rfl, hb1⟩; have hb1' : Below W0.heap.size W0 w1 := (by rw [hW0]; exact hb1); have HX1 := Lib.hid (HX.out.below hb1'); have HY1 := Lib.hid (HY.out.below hb1'); have HB1 := Lib.hid (on HB0.out (Nat.le_refl _) hb1'); have x0 := HX1.out.c0; have x1 := HX1.out.c1; have y0 := HY1.out.c0; have y1 := HY1.out.c1; clear hb1 hb1'))
      go_ret
      exact ⟨rfl, HB4.out⟩
theorem comp23_walk (a b : ByteArray) (n1 n2 : Nat) (W : World) : Calls Try.prog 5 #[.agg #[.string a, .int .u64 n1], .agg #[.string b, .int .u64 n2]] W fun e W' => e = .returned (.bool true) ∧ Below W.heap.size W W' := comp_walk a.data.toList b.data.toList n1 n2 W
end Go.Proofs.Ytlkdfmfcjlfihaa
