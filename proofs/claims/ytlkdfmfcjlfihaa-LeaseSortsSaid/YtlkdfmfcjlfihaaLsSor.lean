/- LeaseSorts: of both orders. -/
import Derived.Test.YtlkdfmfcjlfihaaLsLaw2T
import Derived.Test.YtlkdfmfcjlfihaaLsLaw2F
set_option maxRecDepth 100000
set_option maxHeartbeats 4000000
set_option linter.unusedVariables false
namespace Go.Proofs.Ytlkdfmfcjlfihaa
open Go.RowKit
open Ls (Txt Ln Ms)
theorem sorts_any (b : Bool) {v0 v1 : Value} {l : List Txt} {ts : List Nat} (now : Nat) {w : World} (h0 : SlW cX 1 w v0 l) (h1 : SlW cU 1 w v1 ts) (hk : ∀ x ∈ l, x.length ≤ maxLen) :
    Calls Try.prog 4 #[v0, v1, .int .u64 now, .bool b] w fun e W' => e = .returned (.bool true) ∧ Below w.heap.size w W' := by
  cases b
  · exact sorts_walkF v0 v1 l ts now w h0 h1 hk
  · exact sorts_walkT v0 v1 l ts now w h0 h1 hk
end Go.Proofs.Ytlkdfmfcjlfihaa
