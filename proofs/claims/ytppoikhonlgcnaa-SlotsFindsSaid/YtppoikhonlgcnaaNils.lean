/- The contracts of a shape that has no functions. -/
import Derived.Test.YtppoikhonlgcnaaEnc
namespace Go.Proofs.Ytppoikhonlgcnaa
open Go.RowKit
def nilS : Value := .agg #[.nilFunc, .nilFunc, .nilFunc, .nilFunc]
theorem wholeN_any (w : World) : Calls Try.prog 71 #[nilS] w fun e w' => e = .returned (.bool false) ∧ Below w.heap.size w w' := by
  unfold nilS
  have h1 : ∀ w, (binOp .neq 67 .nilFunc .nilFunc).run Try.prog w = .ok (.bool false) w := fun w => by kernel_rfl
  go_enter Try.func71, Try.ntmps71
  go_wp2
  go_ret
  exact ⟨rfl, (Below.refl _ _).alloc (Nat.le_refl _) _⟩
theorem boxN {w w1 : World} {o : Obj} (hb : Below (w.alloc o).heap.size (w.alloc o) w1) : Below w.heap.size w w1 :=
  below_step ((Below.refl _ _).alloc (Nat.le_refl _) _) hb
theorem bodyN_any (v : Value) (w : World) : Calls Try.prog 27 #[nilS, v] w fun e w' => e = .returned (.tuple #[.string ⟨#[]⟩, .int .i64 2]) ∧ Below w.heap.size w w' := by
  have HW := Lib.hid (fun W => wholeN_any W)
  unfold nilS at HW ⊢
  go_enter Try.func27, Try.ntmps27
  go_wp2_with (go_at_call 71; refine (HW.out _).mono ?_; rintro e w1 ⟨rfl, hb1⟩)
  go_ret2
  exact ⟨rfl, boxN hb1⟩
theorem readN_any (s n : Value) (w : World) : Calls Try.prog 28 #[nilS, s, n] w fun e w' => e = .returned (.tuple #[.slice none 0 0, .int .i64 2]) ∧ Below w.heap.size w w' := by
  have HW := Lib.hid (fun W => wholeN_any W)
  unfold nilS at HW ⊢
  go_enter Try.func28, Try.ntmps28
  go_wp2_with (go_at_call 71; refine (HW.out _).mono ?_; rintro e w1 ⟨rfl, hb1⟩)
  go_ret2
  exact ⟨rfl, boxN hb1⟩
theorem findN_any (v s : Value) (w : World) : Calls Try.prog 29 #[nilS, v, s] w fun e w' => e = .returned (.tuple #[.int .i64 0, .bool false]) ∧ Below w.heap.size w w' := by
  have HW := Lib.hid (fun W => wholeN_any W)
  unfold nilS at HW ⊢
  go_enter Try.func29, Try.ntmps29
  go_wp2_with (go_at_call 71; refine (HW.out _).mono ?_; rintro e w1 ⟨rfl, hb1⟩)
  go_ret2
  exact ⟨rfl, boxN hb1⟩
theorem sizeN_any (x : Value) (w : World) : Calls Try.prog 30 #[nilS, x] w fun e w' => e = .returned (.int .i64 0) ∧ Below w.heap.size w w' := by
  have HW := Lib.hid (fun W => wholeN_any W)
  unfold nilS at HW ⊢
  go_enter Try.func30, Try.ntmps30
  go_wp2_with (go_at_call 71; refine (HW.out _).mono ?_; rintro e w1 ⟨rfl, hb1⟩)
  go_ret
  exact ⟨rfl, boxN hb1⟩
structure BxN (w : World) (g : Nat) : Prop where
  c0 : w.cell? ⟨g, 0, none⟩ = some .nilFunc
  c1 : w.cell? ⟨g, 1, none⟩ = some .nilFunc
  c2 : w.cell? ⟨g, 2, none⟩ = some .nilFunc
  c3 : w.cell? ⟨g, 3, none⟩ = some .nilFunc
theorem BxN.lt {w : World} {g : Nat} (h : BxN w g) : g < w.heap.size := World.block_lt_of_cell? _ _ h.c0
theorem BxN.below {w w' : World} {g : Nat} (h : BxN w g) (hb : Below w.heap.size w w') : BxN w' g :=
  ⟨(hb.cell (p := ⟨g, 0, none⟩) h.lt).trans h.c0, (hb.cell (p := ⟨g, 1, none⟩) h.lt).trans h.c1, (hb.cell (p := ⟨g, 2, none⟩) h.lt).trans h.c2, (hb.cell (p := ⟨g, 3, none⟩) h.lt).trans h.c3⟩
theorem BxN.new (w : World) : BxN (w.alloc (.cells #[.nilFunc, .nilFunc, .nilFunc, .nilFunc] 71)) w.heap.size := ⟨by simp, by simp, by simp, by simp⟩
theorem BxN.alloc {w : World} {g : Nat} (h : BxN w g) (o : Obj) : BxN (w.alloc o) g := h.below ((Below.refl _ _).alloc (Nat.le_refl _) _)
theorem oneEx (w : World) : Calls Try.prog 31 #[.int .u8 1] w fun e w' => e = .returned (.string ⟨#[1]⟩) ∧ Below w.heap.size w w' := one_at 1 1 rfl (by decide) w
end Go.Proofs.Ytppoikhonlgcnaa
