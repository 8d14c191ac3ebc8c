/- The contract of the document's own cell. -/
import Derived.Test.YtdkkcogjkeonkaaSizK
import Derived.Test.YtdkkcogjkeonkaaSteps
import Derived.Test.YtdkkcogjkeonkaaSMath2
import Derived.Test.YtdkkcogjkeonkaaBig
import Derived.BigQuiet
import Derived.Deep.QuietTactic
set_option maxRecDepth 100000
set_option maxHeartbeats 4000000
set_option linter.unusedVariables false
namespace Go.Proofs.Ytdkkcogjkeonkaa
open Go.RowKit
open Sl (Cl Kd)
theorem ext_take (l : List UInt8) (n : Nat) (h : n ≤ l.length) : (str l).extract 0 n = str (l.take n) := by
  have := str_take l n
  rwa [Nat.min_eq_right h] at this
theorem below_drewN {B : Nat} {u v : World} (h : Below B u v) (n : Nat) : Below B u (v.drewN n) := ⟨h.os, h.tape, h.output, h.size, h.block⟩
theorem quiet_box {w : World} {x0 x1 x2 x3 : Value} {T : TypeId} (n : Nat) :
    ((w.alloc (.cells #[x0, x1, x2, x3] T)).drewN n).cell? ⟨w.heap.size, 0, none⟩ = some x0 ∧ ((w.alloc (.cells #[x0, x1, x2, x3] T)).drewN n).cell? ⟨w.heap.size, 1, none⟩ = some x1 ∧ ((w.alloc (.cells #[x0, x1, x2, x3] T)).drewN n).cell? ⟨w.heap.size, 2, none⟩ = some x2 ∧ ((w.alloc (.cells #[x0, x1, x2, x3] T)).drewN n).cell? ⟨w.heap.size, 3, none⟩ = some x3 ∧ Below w.heap.size w ((w.alloc (.cells #[x0, x1, x2, x3] T)).drewN n) :=
  ⟨by simp, by simp, by simp, by simp, below_drewN ((Below.refl _ _).alloc (Nat.le_refl _) _) n⟩
end Go.Proofs.Ytdkkcogjkeonkaa
