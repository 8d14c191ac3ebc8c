/- The contracts of the document's own reader. -/
import Derived.Test.YtdkkcogjkeonkaaReader
import Derived.Test.YtdkkcogjkeonkaaBig
set_option maxRecDepth 100000
set_option maxHeartbeats 4000000
set_option linter.unusedVariables false
namespace Go.Proofs.Ytdkkcogjkeonkaa
open Go.RowKit
theorem u64_add_byte (v c : Nat) (hv : v < 72057594037927936) (hc : c < 256) : IntKind.u64.wrap (IntKind.u64.wrap ((v : Int) * 256) + IntKind.u64.wrap (c : Int)) = ((v * 256 + c : Nat) : Int) := by
  rw [IntKind.wrap_u64, IntKind.wrap_u64, IntKind.wrap_u64]; omega
end Go.Proofs.Ytdkkcogjkeonkaa
