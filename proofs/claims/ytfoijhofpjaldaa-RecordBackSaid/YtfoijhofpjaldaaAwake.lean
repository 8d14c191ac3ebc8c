/- The contract of the laws' own example. -/
import Derived.Test.YtfoijhofpjaldaaRefs
set_option maxRecDepth 100000
set_option maxHeartbeats 4000000
set_option linter.unusedVariables false
namespace Go.Proofs.Ytfoijhofpjaldaa
open Go.RowKit
theorem tk_example : tk ⟨#[0, 0, 1, 2]⟩ 0 4 = (⟨#[0, 0, 1, 2]⟩, ⟨#[]⟩, 0) := by decide +kernel
theorem four_258 (w : World) : Calls Try.prog 31 #[.int .u32 258] w fun e w' => e = .returned (.string ⟨#[0, 0, 1, 2]⟩) ∧ Below w.heap.size w w' :=
  four_at 258 258 rfl (by decide) w
theorem four_example (b : Nat) (w : World) (h : Rd w b ⟨#[0, 0, 1, 2]⟩ 0) :
    Calls Try.prog 35 #[.pointer (some ⟨b, 0, none⟩)] w fun v w' => v = .returned (.int .u32 258) ∧ Rd w' b ⟨#[]⟩ 0 ∧ Upd b w w' := by
  have := four_rd b ⟨#[0, 0, 1, 2]⟩ 0 w h
  rw [tk_example] at this
  exact this
theorem end_example (b : Nat) (w : World) (h : Rd w b ⟨#[]⟩ 0) :
    Calls Try.prog 55 #[.pointer (some ⟨b, 0, none⟩)] w fun v w' => v = .returned (.int .i64 0) ∧ w = w' := end_rd b ⟨#[]⟩ 0 w h
end Go.Proofs.Ytfoijhofpjaldaa
