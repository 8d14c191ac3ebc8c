/- The walk of the law OctetWrites. -/
import Derived.Test.YtfoijhofpjaldaaAwake
set_option maxRecDepth 100000
set_option maxHeartbeats 4000000
set_option linter.unusedVariables false
namespace Go.Proofs.Ytfoijhofpjaldaa
open Go.RowKit
theorem below_step {a b c : World} (h : Below a.heap.size a b) (k : Below b.heap.size b c) : Below a.heap.size a c := h.trans (k.mono h.size)
theorem big1 (x : Int) (n : Nat) (hx : x = n) (hn : n < 256) (w : World) :
    Calls Try.prog 15 #[.int .u64 x, .int .i64 1] w fun e w' => e = .returned (.string (str (Oc.big 1 n))) ∧ Below w.heap.size w w' := big_any x n 1 hx (by omega) (by omega) (by omega) w
theorem big2 (x : Int) (n : Nat) (hx : x = n) (hn : n < 65536) (w : World) :
    Calls Try.prog 15 #[.int .u64 x, .int .i64 2] w fun e w' => e = .returned (.string (str (Oc.big 2 n))) ∧ Below w.heap.size w w' := big_any x n 2 hx (by omega) (by omega) (by omega) w
theorem big4 (x : Int) (n : Nat) (hx : x = n) (hn : n < 4294967296) (w : World) :
    Calls Try.prog 15 #[.int .u64 x, .int .i64 4] w fun e w' => e = .returned (.string (str (Oc.big 4 n))) ∧ Below w.heap.size w w' := big_any x n 4 hx (by omega) (by omega) (by omega) w
theorem big8 (x : Int) (n : Nat) (hx : x = n) (hn : n < 18446744073709551616) (w : World) :
    Calls Try.prog 15 #[.int .u64 x, .int .i64 8] w fun e w' => e = .returned (.string (str (Oc.big 8 n))) ∧ Below w.heap.size w w' := big_any x n 8 hx (by omega) (by omega) (by omega) w
end Go.Proofs.Ytfoijhofpjaldaa
