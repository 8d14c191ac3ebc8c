/- Does a function say so? The law's own, and none. -/
import Derived.Test.YtpgaepilnbjhbaaLsKeep
import Derived.Test.YtpgaepilnbjhbaaLsOrdL
set_option maxRecDepth 100000
set_option maxHeartbeats 4000000
set_option linter.unusedVariables false
namespace Go.Proofs.Ytpgaepilnbjhbaa
open Go.RowKit
open Ls (Txt Ln Ms)
/-- What Keep is given: the law's closure over an act's box, or nothing; and what it says of a number. -/
inductive So : Value → (World → Prop) → (Nat → Bool) → Prop
  | fn (ab n : Nat) : So (.func (.func 13) #[] #[.pointer (some ⟨ab, 0, none⟩)]) (fun W => W.cell? ⟨ab, 3, none⟩ = some (.int .u64 n)) (fun i => decide (i ≠ n))
  | all : So .nilFunc (fun _ => True) (fun _ => true)
set_option maxHeartbeats 400000 in
theorem plays1_any (q : Txt) (id n ab : Nat) (w : World) (hc : w.cell? ⟨ab, 3, none⟩ = some (.int .u64 n)) :
    Calls Try.prog 13 #[.agg #[.string (str q), .int .u64 id], .pointer (some ⟨ab, 0, none⟩)] w fun e w' => e = .returned (.bool (decide (id ≠ n))) ∧ Below w.heap.size w w' := by
  have hb : ∀ o, Below w.heap.size w (w.alloc o) := fun o => (Below.refl _ _).alloc (Nat.le_refl _) _
  have HB := Lib.hid hb
  have hc' : ∀ o, (w.alloc o).cell? ⟨ab, 3, none⟩ = some (.int .u64 n) := fun o => ((hb o).cell (p := ⟨ab, 3, none⟩) (World.block_lt_of_cell? _ _ hc)).trans hc
  clear hb
  by_cases h : id = n
  · subst h
    go_enter Try.func13, Try.ntmps13
    go_wp2
    go_ret
    exact ⟨by simp, HB.out _⟩
  · have hi : ¬ (id : Int) = (n : Int) := by omega
    go_enter Try.func13, Try.ntmps13
    go_wp2
    go_ret
    exact ⟨by simp [h]; omega, HB.out _⟩
theorem idleSays (p : Addr) (w : World) :
    CallsD Try.prog 49 #[.pointer (some p)] .returning w fun e u' w' => e = .returned (.tuple #[]) ∧ u' = .returning ∧ w' = w := by
  refine callsD_of_wpS Try.func49 rfl fun c₀ cs hu => ?_
  apply wpS_seq
  apply wpS_region
  simp [wpOpsS, go_sem, recoverD, hu, Try.ntmps49, Exit.thenS]
  refine wpS_cond (t := false) (by simp [Act.eval, Array.replicate]) ?_
  simp only [Bool.false_eq_true, if_false]
  refine wpS_of_wp (wp_skip ?_)
  cases c₀
  simp_all [bodyPostS, results, Try.results49]
theorem nilSays (w : World) : (binOp .eql 47 .nilFunc .nilFunc).run Try.prog w = .ok (.bool true) w := by kernel_rfl
theorem funcSays (p : Option Addr) (w : World) : (binOp .eql 47 (.func (.func 13) #[] #[.pointer p]) .nilFunc).run Try.prog w = .ok (.bool false) w := by kernel_rfl
theorem So.below {so : Value} {C : World → Prop} {p : Nat → Bool} (h : So so C p) {B : Nat} {w w' : World} (hB : B = w.heap.size) (hb : Below B w w') (hc : C w) : C w' := by
  subst hB
  cases h with
  | fn ab n => exact (hb.cell (p := ⟨ab, 3, none⟩) (World.block_lt_of_cell? _ _ hc)).trans hc
  | all => trivial
set_option maxHeartbeats 400000 in
theorem saysNil (q : Txt) (id : Nat) (w : World) :
    Calls Try.prog 35 #[.nilFunc, .agg #[.string (str q), .int .u64 id]] w fun e w' => e = .returned (.bool true) ∧ Below w.heap.size w w' := by
  have heq := nilSays
  go_enter_defers Try.func35, Try.ntmps35
  go_wp2
  simp [bodyPostD, Leaves, results, Try.results35, go_sem]
  exact ((Below.refl _ _).alloc (Nat.le_refl _) _).alloc (by simp) _
set_option maxHeartbeats 400000 in
theorem saysFn (q : Txt) (id n ab : Nat) (w : World) (hc : w.cell? ⟨ab, 3, none⟩ = some (.int .u64 n)) :
    Calls Try.prog 35 #[.func (.func 13) #[] #[.pointer (some ⟨ab, 0, none⟩)], .agg #[.string (str q), .int .u64 id]] w fun e w' => e = .returned (.bool (decide (id ≠ n))) ∧ Below w.heap.size w w' := by
  have hmf : ∀ (fn : Fn) (first cap : Array Value) (w : World), (Instr.makeFunc fn first cap).run Try.prog w = .ok (.func fn first cap) w := fun _ _ _ _ => rfl
  have heq := funcSays
  have HX : Hid (∀ o1, Boxed ((w.alloc o1).alloc (.cells #[.bool false] 4)) (w.heap.size + 1) 4 (.bool false)) := fun o1 => by
    have := Boxed.new (w.alloc o1) 4 (.bool false)
    rwa [World.size_alloc] at this
  have HB0 : Hid (∀ o1 o2, Below w.heap.size w ((w.alloc o1).alloc o2)) := fun o1 o2 => ((Below.refl _ _).alloc (Nat.le_refl _) _).alloc (by simp) _
  have HC : Hid (∀ o1 o2, ((w.alloc o1).alloc o2).cell? ⟨ab, 3, none⟩ = some (.int .u64 n)) := fun o1 o2 => ((HB0.out o1 o2).cell (p := ⟨ab, 3, none⟩) (World.block_lt_of_cell? _ _ hc)).trans hc
  have HH := Lib.hid (fun W (h : W.cell? ⟨ab, 3, none⟩ = some (.int .u64 n)) => plays1_any q id n ab W h)
  clear hc
  generalize decide (id ≠ n) = r at HH ⊢
  go_enter_defers Try.func35, Try.ntmps35
  go_wp2_with (go_at_call 13; refine (HH.out _ (HC.out _ _)).mono ?_; rintro e w1 ⟨rfl, hb1⟩; have hx := boxed_below (HX.out _) hb1; have c3 := hx.cell; have f3 := hx.frozen; have HX1 := Lib.hid hx; have HB1 := Lib.hid (on (HB0.out _ _) (Nat.le_refl _) hb1); clear hb1 hx)
  refine leaves_cons (f := 49) (args := #[.pointer (some ⟨w.heap.size + 1, 0, none⟩)]) (by simp) (by simp [go_sem]) ?_
  refine (idleSays _ _).mono ?_
  rintro e' u' w'' ⟨rfl, rfl, rfl⟩
  have c1 := (HX1.out.set (.bool r)).cell
  exact ⟨.bool r, by simp [results, Try.results35, go_sem, c1], rfl, HB1.out.setCell (p := ⟨w.heap.size + 1, 0, none⟩) (by simp) _⟩
theorem says_any {so : Value} {C : World → Prop} {p : Nat → Bool} (h : So so C p) (q : Txt) (id : Nat) (w : World) (hc : C w) :
    Calls Try.prog 35 #[so, .agg #[.string (str q), .int .u64 id]] w fun e w' => e = .returned (.bool (p id)) ∧ Below w.heap.size w w' := by
  cases h with
  | fn ab n => exact saysFn q id n ab w hc
  | all => exact saysNil q id w
end Go.Proofs.Ytpgaepilnbjhbaa
