/- The contract of mayStand, at a leaf's cells. -/
import Derived.Test.YtilccpklbaglpaaSizC
import Derived.Test.YtilccpklbaglpaaSteps
import Derived.WalkLawsBesides
import Derived.Lib.Strings
set_option maxRecDepth 100000
set_option maxHeartbeats 4000000
set_option linter.unusedVariables false
namespace Go.Proofs.Ytilccpklbaglpaa
open Go.RowKit
open Sl (Cl Kd)
theorem op_less : ∀ x y : List UInt8, Op.bytesLess x y = Sl.less x y
  | [], [] => rfl
  | [], _ :: _ => rfl
  | _ :: _, [] => rfl
  | a :: x, b :: y => by rw [Op.bytesLess, Sl.less, op_less x y]
theorem bl (a b : List UInt8) : Op.bytesLess (str a).toList (str b).toList = Sl.less a b := by
  rw [Lib.toList_data, Lib.toList_data, op_less]; rfl
theorem elemC {w w1 : World} {x0 x1 x2 x3 : Value} {T : TypeId} (hb : Below (w.alloc (.cells #[x0, x1, x2, x3] T)).heap.size (w.alloc (.cells #[x0, x1, x2, x3] T)) w1) :
    w1.cell? ⟨w.heap.size, 0, none⟩ = some x0 ∧ w1.cell? ⟨w.heap.size, 1, none⟩ = some x1 ∧ w1.cell? ⟨w.heap.size, 2, none⟩ = some x2 ∧ w1.cell? ⟨w.heap.size, 3, none⟩ = some x3 :=
  ⟨(hb.cell (p := ⟨w.heap.size, 0, none⟩) (by simp)).trans (by simp), (hb.cell (p := ⟨w.heap.size, 1, none⟩) (by simp)).trans (by simp), (hb.cell (p := ⟨w.heap.size, 2, none⟩) (by simp)).trans (by simp), (hb.cell (p := ⟨w.heap.size, 3, none⟩) (by simp)).trans (by simp)⟩
end Go.Proofs.Ytilccpklbaglpaa
