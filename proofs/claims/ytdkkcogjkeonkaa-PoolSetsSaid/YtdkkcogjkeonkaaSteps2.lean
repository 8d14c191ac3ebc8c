/- Cells that stay as they were: what stands last. -/
import Derived.Test.YtdkkcogjkeonkaaSteps
set_option maxRecDepth 100000
set_option maxHeartbeats 4000000
set_option linter.unusedVariables false
namespace Go.Proofs.Ytdkkcogjkeonkaa
open Go.RowKit
theorem last4 {w w1 : World} {B : Nat} {p0 p1 p2 p3 : Addr} {x0 x1 x2 x3 : Value} (H : w1.cell? p0 = some x0 ∧ w1.cell? p1 = some x1 ∧ w1.cell? p2 = some x2 ∧ w1.cell? p3 = some x3 ∧ Below B w w1) : Below B w w1 := H.2.2.2.2
theorem last8 {w w1 : World} {B : Nat} {p0 p1 p2 p3 p4 p5 p6 p7 : Addr} {x0 x1 x2 x3 x4 x5 x6 x7 : Value} (H : w1.cell? p0 = some x0 ∧ w1.cell? p1 = some x1 ∧ w1.cell? p2 = some x2 ∧ w1.cell? p3 = some x3 ∧ w1.cell? p4 = some x4 ∧ w1.cell? p5 = some x5 ∧ w1.cell? p6 = some x6 ∧ w1.cell? p7 = some x7 ∧ Below B w w1) : Below B w w1 := H.2.2.2.2.2.2.2.2
end Go.Proofs.Ytdkkcogjkeonkaa
