/- The contract of the laws' own example. -/
import Derived.Test.YtfoijhofpjaldaaDoorLess
set_option maxRecDepth 100000
set_option maxHeartbeats 4000000
set_option linter.unusedVariables false
namespace Go.Proofs.YtfoijhofpjaldaaDoor
open Go.RowKit
theorem keyOut_example : keyOut [⟨false, 1, []⟩] = .tuple #[.string ⟨#[1, 0, 0, 0, 0, 0, 0, 0, 1]⟩, .int .i64 0] := by
  rw [keyOut_ok _ (by decide)]; rfl
theorem keyExample (w1 W : World) (m : Int) (hW : W = w1.alloc (.cells #[.bool false, .int .u64 1, .string ⟨#[]⟩] 30)) (hm : w1.cell? ⟨0, 0, none⟩ = some (.int .i64 m)) :
    Calls Tryd.prog 12 #[.slice (some ⟨w1.heap.size, 0, none⟩) 1 1] W fun e w' => e = .returned (.tuple #[.string ⟨#[1, 0, 0, 0, 0, 0, 0, 0, 1]⟩, .int .i64 0]) ∧ Below W.heap.size W w' := by
  subst hW
  have := key_any _ [⟨false, 1, []⟩] (by decide) m _ (Sl.one w1 ⟨false, 1, []⟩ 30) (by intro p hp; simp at hp; subst hp; decide) (((Below.refl _ _).alloc (Nat.le_refl _) _ |>.cell (p := ⟨0, 0, none⟩) (World.block_lt_of_cell? _ _ hm)).trans hm)
  rw [keyOut_example] at this
  exact this
end Go.Proofs.YtfoijhofpjaldaaDoor
