/- The contract of the document's own right. -/
import Derived.Test.YtilccpklbaglpaaRefSum
import Derived.Test.YtilccpklbaglpaaMayC
set_option maxRecDepth 100000
set_option maxHeartbeats 4000000
set_option linter.unusedVariables false
namespace Go.Proofs.Ytilccpklbaglpaa
open Go.RowKit
open Sl (Cl Kd)
theorem long_bad (leaf : Bool) (x : Cl) (h : 255 < x.key.length) : Sl.long (Sl.shR leaf) x = true := by
  unfold Sl.long; rw [decide_eq_true (show 255 < ((Sl.shR leaf).key x).length from h)]; rfl
theorem long_kid (x : Cl) (h : ¬ 255 < x.key.length) : Sl.long (Sl.shR false) x = false := by
  unfold Sl.long; rw [decide_eq_false (show ¬ 255 < ((Sl.shR false).key x).length from h)]; rfl
theorem long_leaf (x : Cl) (h : ¬ 255 < x.key.length) : Sl.long (Sl.shR true) x = !(Sl.fitsC x) := by
  unfold Sl.long; rw [decide_eq_false (show ¬ 255 < ((Sl.shR true).key x).length from h)]; rfl
theorem str_beq {a b : List UInt8} (h : a = b) : ((str a).toList == (str b).toList) = true := by rw [h]; exact beq_self_eq_true _
theorem str_bne {a b : List UInt8} (h : a ≠ b) : ((str a).toList == (str b).toList) = false := by
  rw [Lib.toList_data, Lib.toList_data, beq_eq_false_iff_ne]; exact h
end Go.Proofs.Ytilccpklbaglpaa
