/- The contract of the function that reads the next part. -/
import Derived.Test.YtfoijhofpjaldaaDoorReads
set_option maxRecDepth 100000
set_option maxHeartbeats 4000000
set_option linter.unusedVariables false
namespace Go.Proofs.YtfoijhofpjaldaaDoor
open Go.RowKit
inductive PartOut (R : List UInt8) (b : Nat) (w : World) (e : Ending) (w' : World) : Prop
  | ok (p : Ord.P) (R' : List UInt8) (h : Ord.pt R = some (p, R')) (he : e = .returned (aggP p)) (hr : Rd w' b (str R') 0) (hm : Mod b w w')
  | bad (h : Ord.pt R = none) (p : Ord.P) (he : e = .returned (aggP p)) (s : ByteArray) (x : Int) (hr : Rd w' b s x) (hx : x ≠ 0) (hm : Mod b w w')
theorem blk {w w' : World} {b : Nat} (hm : Mod b (w.alloc (.cells #[.bool false, .int .u64 0, .string ⟨#[]⟩] 30)) w') (hne : w.heap.size ≠ b) :
    (w'.cell? ⟨w.heap.size, 0, none⟩ = some (.bool false) ∧ w'.cell? ⟨w.heap.size, 1, none⟩ = some (.int .u64 0) ∧ w'.cell? ⟨w.heap.size, 2, none⟩ = some (.string ⟨#[]⟩)) ∧
      w'.frozen? ⟨w.heap.size, 0, none⟩ = false ∧ w'.frozen? ⟨w.heap.size, 1, none⟩ = false ∧ w'.frozen? ⟨w.heap.size, 2, none⟩ = false := by
  have hl : w.heap.size < (w.alloc (.cells #[.bool false, .int .u64 0, .string ⟨#[]⟩] 30)).heap.size := by simp
  refine ⟨⟨?_, ?_, ?_⟩, ?_, ?_, ?_⟩
  · rw [hm.cell (p := ⟨w.heap.size, 0, none⟩) hl hne]; simp
  · rw [hm.cell (p := ⟨w.heap.size, 1, none⟩) hl hne]; simp
  · rw [hm.cell (p := ⟨w.heap.size, 2, none⟩) hl hne]; simp
  · rw [hm.frozen (p := ⟨w.heap.size, 0, none⟩) hl hne]; simp
  · rw [hm.frozen (p := ⟨w.heap.size, 1, none⟩) hl hne]; simp
  · rw [hm.frozen (p := ⟨w.heap.size, 2, none⟩) hl hne]; simp
theorem stored {w : World} {g : Nat} {x0 x1 x2 v0 v1 v2 : Value} (k0 : w.cell? ⟨g, 0, none⟩ = some x0) (k1 : w.cell? ⟨g, 1, none⟩ = some x1) (k2 : w.cell? ⟨g, 2, none⟩ = some x2) :
    (((w.setCell ⟨g, 0, none⟩ v0).setCell ⟨g, 1, none⟩ v1).setCell ⟨g, 2, none⟩ v2).cell? ⟨g, 0, none⟩ = some v0 ∧
    (((w.setCell ⟨g, 0, none⟩ v0).setCell ⟨g, 1, none⟩ v1).setCell ⟨g, 2, none⟩ v2).cell? ⟨g, 1, none⟩ = some v1 ∧
    (((w.setCell ⟨g, 0, none⟩ v0).setCell ⟨g, 1, none⟩ v1).setCell ⟨g, 2, none⟩ v2).cell? ⟨g, 2, none⟩ = some v2 := by
  have ne01 : (⟨g, 1, none⟩ : Addr) ≠ ⟨g, 0, none⟩ := fun h => by cases h
  have ne02 : (⟨g, 2, none⟩ : Addr) ≠ ⟨g, 0, none⟩ := fun h => by cases h
  have ne12 : (⟨g, 2, none⟩ : Addr) ≠ ⟨g, 1, none⟩ := fun h => by cases h
  have a0 : (w.setCell ⟨g, 0, none⟩ v0).cell? ⟨g, 0, none⟩ = some v0 := World.cell?_setCell_same' _ _ _ (by rw [k0]; rfl)
  have a1 : (w.setCell ⟨g, 0, none⟩ v0).cell? ⟨g, 1, none⟩ = some x1 := by rw [World.cell?_setCell_other _ _ _ _ (fun h => ne01 h.symm), k1]
  have a2 : (w.setCell ⟨g, 0, none⟩ v0).cell? ⟨g, 2, none⟩ = some x2 := by rw [World.cell?_setCell_other _ _ _ _ (fun h => ne02 h.symm), k2]
  have b1 : ((w.setCell ⟨g, 0, none⟩ v0).setCell ⟨g, 1, none⟩ v1).cell? ⟨g, 1, none⟩ = some v1 := World.cell?_setCell_same' _ _ _ (by rw [a1]; rfl)
  have b2 : ((w.setCell ⟨g, 0, none⟩ v0).setCell ⟨g, 1, none⟩ v1).cell? ⟨g, 2, none⟩ = some x2 := by rw [World.cell?_setCell_other _ _ _ _ (fun h => ne12 h.symm), a2]
  refine ⟨?_, ?_, World.cell?_setCell_same' _ _ _ (by rw [b2]; rfl)⟩
  · rw [World.cell?_setCell_other _ _ _ _ ne02, World.cell?_setCell_other _ _ _ _ ne01, a0]
  · rw [World.cell?_setCell_other _ _ _ _ ne12, b1]
theorem stored_below {w : World} {g B : Nat} {v0 v1 v2 : Value} (hB : B ≤ g) : Below B w (((w.setCell ⟨g, 0, none⟩ v0).setCell ⟨g, 1, none⟩ v1).setCell ⟨g, 2, none⟩ v2) :=
  (((Below.refl B w).setCell (p := ⟨g, 0, none⟩) hB _).setCell (p := ⟨g, 1, none⟩) hB _).setCell (p := ⟨g, 2, none⟩) hB _
theorem Mod.old {b : Nat} {w w' : World} {o : Obj} (h : Mod b (w.alloc o) w') : Mod b w w' := ((Mod.refl b w).alloc o).trans h
end Go.Proofs.YtfoijhofpjaldaaDoor
