/- Which of two loans is ahead, by a function or without one. -/
import Derived.Test.YtpgaepilnbjhbaaLsCmp
import Derived.Defers
import Derived.Recover
set_option maxRecDepth 100000
set_option maxHeartbeats 4000000
set_option linter.unusedVariables false
namespace Go.Proofs.Ytpgaepilnbjhbaa
open Go.RowKit
open Ls (Txt Ln Ms)
theorem idleCompL (p : Addr) (w : World) :
    CallsD Try.prog 56 #[.pointer (some p)] .returning w fun e u' w' => e = .returned (.tuple #[]) ∧ u' = .returning ∧ w' = w := by
  refine callsD_of_wpS Try.func56 rfl fun c₀ cs hu => ?_
  apply wpS_seq
  apply wpS_region
  simp [wpOpsS, go_sem, recoverD, hu, Try.ntmps56, Exit.thenS]
  refine wpS_cond (t := false) (by simp [Act.eval, Array.replicate]) ?_
  simp only [Bool.false_eq_true, if_false]
  refine wpS_of_wp (wp_skip ?_)
  cases c₀
  simp_all [bodyPostS, results, Try.results56]
theorem nilCompL (w : World) : (binOp .eql 24 .nilFunc .nilFunc).run Try.prog w = .ok (.bool true) w := by kernel_rfl
theorem funcCompL (w : World) : (binOp .eql 24 (.func (.func 29) #[] #[]) .nilFunc).run Try.prog w = .ok (.bool false) w := by kernel_rfl

set_option maxHeartbeats 2000000 in
theorem compL_any (sl : Value) (hsl : ∃ a n c, sl = .slice a n c) (a b : Ln) (r : Int) (w : World)
    (H : ∀ W, Calls Try.prog 29 #[.agg #[.string (str a.q), .int .u64 a.id], .agg #[.string (str b.q), .int .u64 b.id]] W fun e w' => e = .returned (.int .i64 r) ∧ Below W.heap.size W w') :
    Calls Try.prog 50 #[.agg #[.func (.func 29) #[] #[], sl], .agg #[.string (str a.q), .int .u64 a.id], .agg #[.string (str b.q), .int .u64 b.id]] w fun e w' => e = .returned (.int .i64 r) ∧ Below w.heap.size w w' := by
  obtain ⟨sa, sn, sc, rfl⟩ := hsl
  have hmf : ∀ (fn : Fn) (first cap : Array Value) (w : World), (Instr.makeFunc fn first cap).run Try.prog w = .ok (.func fn first cap) w := fun _ _ _ _ => rfl
  have heq := funcCompL
  have HH := Lib.hid H
  clear H
  have HX : Hid (∀ o1 o2 o3, Boxed ((((w.alloc o1).alloc o2).alloc o3).alloc (.cells #[.int .i64 0] 3)) (w.heap.size + 1 + 1 + 1) 3 (.int .i64 0)) := fun o1 o2 o3 => by
    have := Boxed.new (((w.alloc o1).alloc o2).alloc o3) 3 (.int .i64 0)
    rwa [World.size_alloc, World.size_alloc, World.size_alloc] at this
  have HB0 : Hid (∀ o1 o2 o3 o4, Below w.heap.size w ((((w.alloc o1).alloc o2).alloc o3).alloc o4)) := fun o1 o2 o3 o4 => ((((Below.refl _ _).alloc (Nat.le_refl _) _).alloc (by simp) _).alloc (by simp; omega) _).alloc (by simp; omega) _
  go_enter_defers Try.func50, Try.ntmps50
  go_wp2_with (go_at_call 29; refine (HH.out _).mono ?_; rintro e w1 ⟨rfl, hb1⟩; have hx := boxed_below (HX.out _ _ _) hb1; have c3 := hx.cell; have f3 := hx.frozen; have HX1 := Lib.hid hx; have HB1 := Lib.hid (on (HB0.out _ _ _ _) (Nat.le_refl _) hb1); clear hb1 hx)
  refine leaves_cons (f := 56) (args := #[.pointer (some ⟨w.heap.size + 1 + 1 + 1, 0, none⟩)]) (by simp) (by simp [go_sem]) ?_
  refine (idleCompL _ _).mono ?_
  rintro e' u' w'' ⟨rfl, rfl, rfl⟩
  have c1 := (HX1.out.set (.int .i64 r)).cell
  exact ⟨.int .i64 r, by simp [results, Try.results50, go_sem, c1], rfl, HB1.out.setCell (p := ⟨w.heap.size + 1 + 1 + 1, 0, none⟩) (by simp; omega) _⟩
theorem orderL_any (fn sl : Value) (hfn : (∃ k, fn = .func (.func k) #[] #[]) ∨ fn = .nilFunc) (hsl : ∃ a n c, sl = .slice a n c) (a b : Ln) (r : Int) (w : World)
    (H : ∀ W, Calls Try.prog 50 #[.agg #[fn, sl], .agg #[.string (str a.q), .int .u64 a.id], .agg #[.string (str b.q), .int .u64 b.id]] W fun e w' => e = .returned (.int .i64 r) ∧ Below W.heap.size W w') :
    Calls Try.prog 37 #[.agg #[fn, sl], .agg #[.string (str a.q), .int .u64 a.id, .int .u64 a.t], .agg #[.string (str b.q), .int .u64 b.id, .int .u64 b.t]] w fun e w' => e = .returned (.int .i64 (cmpO a.t b.t r)) ∧ Below w.heap.size w w' := by
  obtain ⟨sa, sn, sc, rfl⟩ := hsl
  have HH := Lib.hid H
  clear H
  have HC := Lib.hid (cComp_any a.t b.t)
  have HB : ∀ o1 o2 o3, Below w.heap.size w (((w.alloc o1).alloc o2).alloc o3) := fun o1 o2 o3 => (((Below.refl _ _).alloc (Nat.le_refl _) _).alloc (by simp) _).alloc (by simp; omega) _
  have HBB := Lib.hid HB
  clear HB
  have hq : cmpO a.t b.t r = if cmp64 a.t b.t ≠ 0 then cmp64 a.t b.t else r := by
    unfold cmpO cmp64
    by_cases h1 : a.t < b.t
    · simp [h1]
    · by_cases h2 : b.t < a.t <;> simp [h1, h2]
  rw [hq]
  clear hq
  generalize cmp64 a.t b.t = c at HC ⊢
  by_cases h : c = 0
  · subst h
    have hr : (if (0 : Int) ≠ 0 then (0 : Int) else r) = r := by simp
    rw [hr]
    clear hr
    rcases hfn with ⟨kf, rfl⟩ | rfl
    all_goals
      go_enter Try.func37, Try.ntmps37
      go_wp2_with (first | (go_at_call 45; refine (HC.out _).mono ?_; rintro e w1 ⟨rfl, rfl⟩) | (go_at_call 50; refine (HH.out _).mono ?_; rintro e w1 ⟨rfl, hb1⟩; have HB1 := Lib.hid (on (HBB.out _ _ _) (Nat.le_refl _) hb1); clear hb1))
      go_ret
      exact ⟨rfl, HB1.out⟩
  · rw [if_pos h]
    rcases hfn with ⟨kf, rfl⟩ | rfl
    all_goals
      go_enter Try.func37, Try.ntmps37
      go_wp2_with (go_at_call 45; refine (HC.out _).mono ?_; rintro e w1 ⟨rfl, rfl⟩)
      go_ret
      exact ⟨rfl, HBB.out _ _ _⟩
end Go.Proofs.Ytpgaepilnbjhbaa
