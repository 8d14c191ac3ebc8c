/- The contracts of a leaf's cell: its bytes and its key by the codec's and the shape's calls, its size. -/
import Derived.Test.YtdkkcogjkeonkaaEnc
import Derived.Defers
import Derived.Recover
set_option maxRecDepth 100000
set_option maxHeartbeats 4000000
set_option linter.unusedVariables false
namespace Go.Proofs.Ytdkkcogjkeonkaa
open Go.RowKit
open Sl (Cl Kd)
theorem lt3 (w : World) (o1 o2 o3 : Obj) : w.heap.size + 1 + 1 < (((w.alloc o1).alloc o2).alloc o3).heap.size := by simp
theorem size2 (w : World) (o1 o2 : Obj) : ((w.alloc o1).alloc o2).heap.size = w.heap.size + 1 + 1 := by simp
theorem cell3 (w : World) (o1 o2 : Obj) (x : Value) (T : TypeId) : (((w.alloc o1).alloc o2).alloc (.cells #[x] T)).cell? ⟨w.heap.size + 1 + 1, 0, none⟩ = some x := by
  have := World.cell?_alloc_new ((w.alloc o1).alloc o2) #[x] T 0
  rw [size2] at this
  exact this
theorem below3 (w : World) (o1 o2 o3 : Obj) : Below w.heap.size w (((w.alloc o1).alloc o2).alloc o3) :=
  below_step (below_step ((Below.refl _ _).alloc (Nat.le_refl _) _) ((Below.refl _ _).alloc (Nat.le_refl _) _)) ((Below.refl _ _).alloc (Nat.le_refl _) _)
end Go.Proofs.Ytdkkcogjkeonkaa
