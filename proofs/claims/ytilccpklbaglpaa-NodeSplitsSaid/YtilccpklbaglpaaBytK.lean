/- The contracts of a branch's cell: its bytes and its key by the codec's and the shape's calls, its size. -/
import Derived.Test.YtilccpklbaglpaaBytC
import Derived.Defers
import Derived.Recover
set_option maxRecDepth 100000
set_option maxHeartbeats 4000000
set_option linter.unusedVariables false
namespace Go.Proofs.Ytilccpklbaglpaa
open Go.RowKit
open Sl (Cl Kd)
theorem idleBytesK (p : Addr) (w : World) :
    CallsD Try.prog 130 #[.pointer (some p)] .returning w fun e u' w' => e = .returned (.tuple #[]) ∧ u' = .returning ∧ w' = w := by
  refine callsD_of_wpS Try.func130 rfl fun c₀ cs hu => ?_
  apply wpS_seq
  apply wpS_region
  simp [wpOpsS, go_sem, recoverD, hu, Try.ntmps130, Exit.thenS]
  refine wpS_cond (t := false) (by simp [Act.eval, Array.replicate]) ?_
  simp only [Bool.false_eq_true, if_false]
  refine wpS_of_wp (wp_skip ?_)
  cases c₀
  simp_all [bodyPostS, results, Try.results130]
theorem idleKeyK (p : Addr) (w : World) :
    CallsD Try.prog 127 #[.pointer (some p)] .returning w fun e u' w' => e = .returned (.tuple #[]) ∧ u' = .returning ∧ w' = w := by
  refine callsD_of_wpS Try.func127 rfl fun c₀ cs hu => ?_
  apply wpS_seq
  apply wpS_region
  simp [wpOpsS, go_sem, recoverD, hu, Try.ntmps127, Exit.thenS]
  refine wpS_cond (t := false) (by simp [Act.eval, Array.replicate]) ?_
  simp only [Bool.false_eq_true, if_false]
  refine wpS_of_wp (wp_skip ?_)
  cases c₀
  simp_all [bodyPostS, results, Try.results127]

theorem bytesK_any (x : Kd) (hc : x.page < 4294967296) (w : World) :
    Calls Try.prog 123 #[cdcK, aggK x] w fun e w' => e = .returned (.string (str (Sl.shK.enc x))) ∧ Below w.heap.size w w' := by
  have hmf : ∀ (fn : Fn) (first cap : Array Value) (w : World), (Instr.makeFunc fn first cap).run Try.prog w = .ok (.func fn first cap) w := fun _ _ _ _ => rfl
  have heq : ∀ w, (binOp .eql 107 (.func (.func 87) #[] #[]) .nilFunc).run Try.prog w = .ok (.bool false) w := fun w => by kernel_rfl
  have HP : Hid (∀ W, Calls Try.prog 87 #[aggK x] W fun e w' => e = .returned (.string (str (Sl.shK.enc x))) ∧ Below W.heap.size W w') := fun W => putKid_any x hc W
  generalize Sl.shK.enc x = ex at HP ⊢
  unfold aggK at HP ⊢
  unfold cdcK
  go_enter_defers Try.func123, Try.ntmps123
  go_wp2_with (go_at_call 87; refine (HP.out _).mono ?_; rintro e w1 ⟨rfl, hb⟩; have hc := hb.cell (p := ⟨w.heap.size + 1 + 1, 0, none⟩) (lt3 w _ _ _); have hz := hb.frozen (p := ⟨w.heap.size + 1 + 1, 0, none⟩) (lt3 w _ _ _))
  have hcs : (w1.setCell ⟨w.heap.size + 1 + 1, 0, none⟩ (.string (str ex))).cell? ⟨w.heap.size + 1 + 1, 0, none⟩ = some (.string (str ex)) := World.cell?_setCell_same _ _ _ (u := .string ⟨#[]⟩) (hc.trans (cell3 w _ _ _ 9))
  refine leaves_cons (f := 130) (args := #[.pointer (some ⟨w.heap.size + 1 + 1, 0, none⟩)]) (by simp) (by simp [go_sem]) ?_
  refine (idleBytesK ⟨w.heap.size + 1 + 1, 0, none⟩ _).mono ?_
  rintro e u' w'' ⟨rfl, rfl, rfl⟩
  simp [Leaves, settle, results, Try.results123, go_sem, hcs]
  exact below_step (below3 w _ _ _) hb |>.setCell (show w.heap.size ≤ w.heap.size + 1 + 1 by omega) _
theorem keyK2_any (x : Kd) (w : World) :
    Calls Try.prog 117 #[shpK, aggK x] w fun e w' => e = .returned (.string (str (Sl.shK.key x))) ∧ Below w.heap.size w w' := by
  have hmf : ∀ (fn : Fn) (first cap : Array Value) (w : World), (Instr.makeFunc fn first cap).run Try.prog w = .ok (.func fn first cap) w := fun _ _ _ _ => rfl
  have HP : Hid (∀ W, Calls Try.prog 90 #[aggK x] W fun e w' => e = .returned (.string (str (Sl.shK.key x))) ∧ Below W.heap.size W w') := fun W => keyK_any x W
  generalize Sl.shK.key x = ex at HP ⊢
  unfold aggK at HP ⊢
  unfold shpK
  go_enter_defers Try.func117, Try.ntmps117
  go_wp2_with (go_at_call 90; refine (HP.out _).mono ?_; rintro e w1 ⟨rfl, hb⟩; have hc := hb.cell (p := ⟨w.heap.size + 1 + 1, 0, none⟩) (lt3 w _ _ _); have hz := hb.frozen (p := ⟨w.heap.size + 1 + 1, 0, none⟩) (lt3 w _ _ _))
  have hcs : (w1.setCell ⟨w.heap.size + 1 + 1, 0, none⟩ (.string (str ex))).cell? ⟨w.heap.size + 1 + 1, 0, none⟩ = some (.string (str ex)) := World.cell?_setCell_same _ _ _ (u := .string ⟨#[]⟩) (hc.trans (cell3 w _ _ _ 9))
  refine leaves_cons (f := 127) (args := #[.pointer (some ⟨w.heap.size + 1 + 1, 0, none⟩)]) (by simp) (by simp [go_sem]) ?_
  refine (idleKeyK ⟨w.heap.size + 1 + 1, 0, none⟩ _).mono ?_
  rintro e u' w'' ⟨rfl, rfl, rfl⟩
  simp [Leaves, settle, results, Try.results117, go_sem, hcs]
  exact below_step (below3 w _ _ _) hb |>.setCell (show w.heap.size ≤ w.heap.size + 1 + 1 by omega) _
end Go.Proofs.Ytilccpklbaglpaa
