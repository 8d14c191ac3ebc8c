/- Rows of numbers of one's own, as rows of cells. -/
import Derived.Test.YtdkkcogjkeonkaaNdBase
set_option maxRecDepth 100000
set_option maxHeartbeats 4000000
set_option linter.unusedVariables false
namespace Go.Proofs.Ytdkkcogjkeonkaa
open Go.RowKit
def cellsU (x : Nat) : List Value := [.int .u32 x]
theorem cellsU_len (x : Nat) : (cellsU x).length = 1 := rfl
theorem cellsU_one (x : Nat) : ∀ u ∈ cellsU x, u.oneCell' = true := by
  intro u hu
  simp [cellsU] at hu
  subst hu
  rfl
theorem infoU : (Try.prog.info? 24).map (fun i => (i.zero, i.size, i.bytes)) = some (some (.int .u32 0), 1, 4) := by kernel_rfl
def RowU (w : World) (B : Nat) (v : Value) (l : List Nat) : Prop := w.ownsRow B 24 1 v l.length (l.flatMap cellsU)
theorem flat_oneU (l : List Nat) : ∀ u ∈ l.flatMap cellsU, u.oneCell' = true := by
  intro u hu
  obtain ⟨x, _, h⟩ := List.mem_flatMap.1 hu
  exact cellsU_one x u h
end Go.Proofs.Ytdkkcogjkeonkaa
