/- The contract of the laws' own example. -/
import Derived.Test.YtgkonmidgeanmaaRefs
namespace Go.Proofs.Ytgkonmidgeanmaa
open Go.RowKit
theorem tk_example : tk ⟨#[0, 0, 1, 2]⟩ 0 4 = (⟨#[0, 0, 1, 2]⟩, ⟨#[]⟩, 0) := by decide +kernel
theorem four_258 (w : World) : Calls Try.prog 12 #[.int .u32 258] w fun e w' => e = .returned (.string ⟨#[0, 0, 1, 2]⟩) ∧ Below w.heap.size w w' :=
  four_at 258 258 rfl (by decide) w
theorem four_example (b : Nat) (w : World) (h : Rd w b ⟨#[0, 0, 1, 2]⟩ 0) :
    Calls Try.prog 19 #[.pointer (some ⟨b, 0, none⟩)] w fun v w' => v = .returned (.int .u32 258) ∧ Rd w' b ⟨#[]⟩ 0 ∧ Upd b w w' := by
  have := four_rd b ⟨#[0, 0, 1, 2]⟩ 0 w h
  rw [tk_example] at this
  exact this
theorem end_example (b : Nat) (w : World) (h : Rd w b ⟨#[]⟩ 0) :
    Calls Try.prog 27 #[.pointer (some ⟨b, 0, none⟩)] w fun v w' => v = .returned (.int .i64 0) ∧ w = w' := end_rd b ⟨#[]⟩ 0 w h
theorem awake_any (w : World) : Calls Try.prog 8 #[] w fun e w' => e = .returned (.bool true) ∧ Below w.heap.size w w' := by
  go_enter Try.func8, Try.ntmps8
  go_wp2_with (first
    | (go_at_call 16; refine (over_any _ _).mono ?_; rintro e w1 ⟨rfl, hr, hb⟩)
    | (go_at_call 12; refine (four_258 _).mono ?_; rintro e w2 ⟨rfl, hb2⟩)
    | (go_at_call 19; refine (four_example _ _ (hr.below hb2)).mono ?_; rintro e w3 ⟨rfl, hr3, hu3⟩)
    | (go_at_call 27; refine (end_example _ _ hr3).mono ?_; rintro e w4 ⟨rfl, rfl⟩))
  go_ret
  exact ⟨rfl, (hb.trans (hb2.mono hb.size)).trans (hu3.below (Nat.le_refl _))⟩
end Go.Proofs.Ytgkonmidgeanmaa
