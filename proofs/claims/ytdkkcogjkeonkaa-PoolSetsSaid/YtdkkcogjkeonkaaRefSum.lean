/- The contracts of the document's own Sum and right. -/
import Derived.Test.YtdkkcogjkeonkaaRefCell
set_option maxRecDepth 100000
set_option maxHeartbeats 4000000
set_option linter.unusedVariables false
namespace Go.Proofs.Ytdkkcogjkeonkaa
open Go.RowKit
open Sl (Cl Kd)
namespace Sl
/-- What the document's answer takes a cell for: a leaf's, or a branch's. -/
def shR (leaf : Bool) : Sh Cl := ⟨fun c => if leaf then encC c else encK ⟨c.key, c.chain⟩, Cl.key, fun c => if leaf then fitsC c else true⟩
theorem shR_len (leaf : Bool) (c : Cl) : ((shR leaf).enc c).length ≤ 65794 := by
  cases leaf
  · exact Nat.le_trans (encK_len ⟨c.key, c.chain⟩) (by decide)
  · exact encC_len c
end Sl
theorem shR_le (leaf : Bool) (l : List Cl) (k : Nat) (h : l.length ≤ 100000) : Sl.sum (Sl.shR leaf) (l.take k) ≤ 6579600000 := by
  have h1 := Sl.sum_take (Sl.shR leaf) l k
  have h2 := Sl.sum_le (Sl.shR leaf) 65794 (Sl.shR_len leaf) l
  omega
end Go.Proofs.Ytdkkcogjkeonkaa
