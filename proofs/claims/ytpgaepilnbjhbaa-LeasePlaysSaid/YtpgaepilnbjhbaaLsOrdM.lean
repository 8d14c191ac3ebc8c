/- Which of two loans is ahead, by a function or without one. -/
import Derived.Test.YtpgaepilnbjhbaaLsCmp
import Derived.Defers
import Derived.Recover
set_option maxRecDepth 100000
set_option maxHeartbeats 4000000
set_option linter.unusedVariables false
namespace Go.Proofs.Ytpgaepilnbjhbaa
open Go.RowKit
open Ls (Txt Ln Ms)
theorem idleCompM (p : Addr) (w : World) :
    CallsD Try.prog 58 #[.pointer (some p)] .returning w fun e u' w' => e = .returned (.tuple #[]) ∧ u' = .returning ∧ w' = w := by
  refine callsD_of_wpS Try.func58 rfl fun c₀ cs hu => ?_
  apply wpS_seq
  apply wpS_region
  simp [wpOpsS, go_sem, recoverD, hu, Try.ntmps58, Exit.thenS]
  refine wpS_cond (t := false) (by simp [Act.eval, Array.replicate]) ?_
  simp only [Bool.false_eq_true, if_false]
  refine wpS_of_wp (wp_skip ?_)
  cases c₀
  simp_all [bodyPostS, results, Try.results58]
theorem nilCompM (w : World) : (binOp .eql 59 .nilFunc .nilFunc).run Try.prog w = .ok (.bool true) w := by kernel_rfl
theorem funcCompM (w : World) : (binOp .eql 59 (.func (.func 21) #[] #[]) .nilFunc).run Try.prog w = .ok (.bool false) w := by kernel_rfl
theorem sorts1_any (a b : Txt) (w : World) : Calls Try.prog 21 #[.string (str a), .string (str b)] w fun e w' => e = .returned (.int .i64 (cmpT b a)) ∧ w' = w := by
  have H := Lib.hid (sComp_any a b)
  have hneg : -cmpT a b = cmpT b a := by
    unfold cmpT
    cases h1 : Ls.tl a b with
    | true => rw [Ls.tl_asy h1]; simp
    | false => cases h2 : Ls.tl b a <;> simp
  have hw : cmpT a b = -1 ∨ cmpT a b = 0 ∨ cmpT a b = 1 := by
    unfold cmpT
    cases Ls.tl a b <;> cases Ls.tl b a <;> simp
  rw [← hneg]
  generalize cmpT a b = r at H hw ⊢
  clear hneg
  rcases hw with rfl | rfl | rfl
  all_goals
    go_enter Try.func21, Try.ntmps21
    go_wp2_with (go_at_call 22; refine (H.out _).mono ?_; rintro e w1 ⟨rfl, rfl⟩)
    go_ret
    exact ⟨rfl, rfl⟩
theorem compNilM (sl : Value) (hsl : ∃ a n c, sl = .slice a n c) (a b : Ms) (w : World) :
    Calls Try.prog 53 #[.agg #[.nilFunc, sl], .string (str a.s), .string (str b.s)] w fun e w' => e = .returned (.int .i64 0) ∧ Below w.heap.size w w' := by
  obtain ⟨sa, sn, sc, rfl⟩ := hsl
  have heq := nilCompM
  go_enter_defers Try.func53, Try.ntmps53
  go_wp2
  simp [bodyPostD, Leaves, results, Try.results53, go_sem]
  exact ((Below.refl _ _).alloc (Nat.le_refl _) _).alloc (by simp) _

set_option maxHeartbeats 2000000 in
theorem compM_any (sl : Value) (hsl : ∃ a n c, sl = .slice a n c) (a b : Ms) (r : Int) (w : World)
    (H : ∀ W, Calls Try.prog 21 #[.string (str a.s), .string (str b.s)] W fun e w' => e = .returned (.int .i64 r) ∧ Below W.heap.size W w') :
    Calls Try.prog 53 #[.agg #[.func (.func 21) #[] #[], sl], .string (str a.s), .string (str b.s)] w fun e w' => e = .returned (.int .i64 r) ∧ Below w.heap.size w w' := by
  obtain ⟨sa, sn, sc, rfl⟩ := hsl
  have hmf : ∀ (fn : Fn) (first cap : Array Value) (w : World), (Instr.makeFunc fn first cap).run Try.prog w = .ok (.func fn first cap) w := fun _ _ _ _ => rfl
  have heq := funcCompM
  have HH := Lib.hid H
  clear H
  have HX : Hid (∀ o1, Boxed ((w.alloc o1).alloc (.cells #[.int .i64 0] 3)) (w.heap.size + 1) 3 (.int .i64 0)) := fun o1 => by
    have := Boxed.new (w.alloc o1) 3 (.int .i64 0)
    rwa [World.size_alloc] at this
  have HB0 : Hid (∀ o1 o2, Below w.heap.size w ((w.alloc o1).alloc o2)) := fun o1 o2 => ((Below.refl _ _).alloc (Nat.le_refl _) _).alloc (by simp) _
  go_enter_defers Try.func53, Try.ntmps53
  go_wp2_with (go_at_call 21; refine (HH.out _).mono ?_; rintro e w1 ⟨rfl, hb1⟩; have hx := boxed_below (HX.out _) hb1; have c3 := hx.cell; have f3 := hx.frozen; have HX1 := Lib.hid hx; have HB1 := Lib.hid (on (HB0.out _ _) (Nat.le_refl _) hb1); clear hb1 hx)
  refine leaves_cons (f := 58) (args := #[.pointer (some ⟨w.heap.size + 1, 0, none⟩)]) (by simp) (by simp [go_sem]) ?_
  refine (idleCompM _ _).mono ?_
  rintro e' u' w'' ⟨rfl, rfl, rfl⟩
  have c1 := (HX1.out.set (.int .i64 r)).cell
  exact ⟨.int .i64 r, by simp [results, Try.results53, go_sem, c1], rfl, HB1.out.setCell (p := ⟨w.heap.size + 1, 0, none⟩) (by simp) _⟩
theorem orderM_any (fn sl : Value) (hfn : (∃ k, fn = .func (.func k) #[] #[]) ∨ fn = .nilFunc) (hsl : ∃ a n c, sl = .slice a n c) (a b : Ms) (r : Int) (w : World)
    (H : ∀ W, Calls Try.prog 53 #[.agg #[fn, sl], .string (str a.s), .string (str b.s)] W fun e w' => e = .returned (.int .i64 r) ∧ Below W.heap.size W w') :
    Calls Try.prog 41 #[.agg #[fn, sl], .agg #[.string (str a.s), .int .u64 a.t], .agg #[.string (str b.s), .int .u64 b.t]] w fun e w' => e = .returned (.int .i64 (cmpO a.t b.t r)) ∧ Below w.heap.size w w' := by
  obtain ⟨sa, sn, sc, rfl⟩ := hsl
  have HH := Lib.hid H
  clear H
  have HC := Lib.hid (cComp_any a.t b.t)
  have HB : ∀ o1 o2 o3, Below w.heap.size w (((w.alloc o1).alloc o2).alloc o3) := fun o1 o2 o3 => (((Below.refl _ _).alloc (Nat.le_refl _) _).alloc (by simp) _).alloc (by simp; omega) _
  have HBB := Lib.hid HB
  clear HB
  have hq : cmpO a.t b.t r = if cmp64 a.t b.t ≠ 0 then cmp64 a.t b.t else r := by
    unfold cmpO cmp64
    by_cases h1 : a.t < b.t
    · simp [h1]
    · by_cases h2 : b.t < a.t <;> simp [h1, h2]
  rw [hq]
  clear hq
  generalize cmp64 a.t b.t = c at HC ⊢
  by_cases h : c = 0
  · subst h
    have hr : (if (0 : Int) ≠ 0 then (0 : Int) else r) = r := by simp
    rw [hr]
    clear hr
    rcases hfn with ⟨kf, rfl⟩ | rfl
    all_goals
      go_enter Try.func41, Try.ntmps41
      go_wp2_with (first | (go_at_call 45; refine (HC.out _).mono ?_; rintro e w1 ⟨rfl, rfl⟩) | (go_at_call 53; refine (HH.out _).mono ?_; rintro e w1 ⟨rfl, hb1⟩; have HB1 := Lib.hid (on (HBB.out _ _ _) (Nat.le_refl _) hb1); clear hb1))
      go_ret
      exact ⟨rfl, HB1.out⟩
  · rw [if_pos h]
    rcases hfn with ⟨kf, rfl⟩ | rfl
    all_goals
      go_enter Try.func41, Try.ntmps41
      go_wp2_with (go_at_call 45; refine (HC.out _).mono ?_; rintro e w1 ⟨rfl, rfl⟩)
      go_ret
      exact ⟨rfl, HBB.out _ _ _⟩
end Go.Proofs.Ytpgaepilnbjhbaa
