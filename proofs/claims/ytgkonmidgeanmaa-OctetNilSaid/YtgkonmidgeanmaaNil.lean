/- A reader that is none: the contracts, and the walk of the law OctetNil. -/
import Derived.Test.YtgkonmidgeanmaaAwake
namespace Go.Proofs.Ytgkonmidgeanmaa
open Go.RowKit
theorem nilErr (w : World) : Calls Try.prog 31 #[.pointer none] w fun x w' => x = .returned (.int .i64 1) ∧ w = w' := by
  go_enter Try.func31, Try.ntmps31
  go_wp2
  go_ret
  exact ⟨rfl, rfl⟩
theorem nilLeft (w : World) : Calls Try.prog 30 #[.pointer none] w fun x w' => x = .returned (.int .i64 0) ∧ w = w' := by
  go_enter Try.func30, Try.ntmps30
  go_wp2
  go_ret
  exact ⟨rfl, rfl⟩
theorem nilFail (x : Int) (w : World) : Calls Try.prog 25 #[.pointer none, .int .i64 x] w fun x w' => x = .returned (.tuple #[]) ∧ w = w' := by
  go_enter Try.func25, Try.ntmps25
  go_wp2
  go_end0
  exact ⟨rfl, rfl⟩
theorem nilTake (x : Int) (w : World) : Calls Try.prog 23 #[.pointer none, .int .i64 x] w fun x w' => x = .returned (.string ⟨#[]⟩) ∧ w = w' := by
  go_enter Try.func23, Try.ntmps23
  go_wp2_with (go_at_call 31; refine (nilErr _).mono ?_; rintro x w1 ⟨rfl, rfl⟩)
  go_ret
  exact ⟨rfl, rfl⟩
theorem nilNumber (x : Int) (w : World) : Calls Try.prog 39 #[.pointer none, .int .i64 x] w fun x w' => x = .returned (.int .u64 0) ∧ w = w' := by
  go_enter Try.func39, Try.ntmps39
  go_wp2_with (go_at_call 23; refine (nilTake _ _).mono ?_; rintro x w1 ⟨rfl, rfl⟩)
  refine wp_loop_once ?_
  go_wp2
  go_ret
  exact ⟨rfl, rfl⟩
theorem nilOne (w : World) : Calls Try.prog 29 #[.pointer none] w fun x w' => x = .returned (.int .u8 0) ∧ w = w' := by
  go_enter Try.func29, Try.ntmps29
  go_wp2_with (go_at_call 39; refine (nilNumber _ _).mono ?_; rintro x w1 ⟨rfl, rfl⟩)
  go_ret
  exact ⟨rfl, rfl⟩
theorem nilFour (w : World) : Calls Try.prog 19 #[.pointer none] w fun x w' => x = .returned (.int .u32 0) ∧ w = w' := by
  go_enter Try.func19, Try.ntmps19
  go_wp2_with (go_at_call 39; refine (nilNumber _ _).mono ?_; rintro x w1 ⟨rfl, rfl⟩)
  go_ret
  exact ⟨rfl, rfl⟩
theorem nilEight (w : World) : Calls Try.prog 20 #[.pointer none] w fun x w' => x = .returned (.int .u64 0) ∧ w = w' := by
  go_enter Try.func20, Try.ntmps20
  go_wp2_with (go_at_call 39; refine (nilNumber _ _).mono ?_; rintro x w1 ⟨rfl, rfl⟩)
  go_ret
  exact ⟨rfl, rfl⟩
theorem nilCount (x : Int) (w : World) : Calls Try.prog 40 #[.pointer none, .int .i64 9, .int .i64 x] w fun x w' => x = .returned (.int .i64 0) ∧ w = w' := by
  go_enter Try.func40, Try.ntmps40
  go_wp2_with (go_at_call 19; refine (nilFour _).mono ?_; rintro x w1 ⟨rfl, rfl⟩)
  go_ret
  exact ⟨rfl, rfl⟩
theorem nilText (w : World) : Calls Try.prog 21 #[.pointer none, .int .i64 9] w fun x w' => x = .returned (.string ⟨#[]⟩) ∧ w = w' := by
  go_enter Try.func21, Try.ntmps21
  go_wp2_with (first
    | (go_at_call 40; refine (nilCount _ _).mono ?_; rintro x w1 ⟨rfl, rfl⟩)
    | (go_at_call 23; refine (nilTake _ _).mono ?_; rintro x w1 ⟨rfl, rfl⟩))
  go_ret
  exact ⟨rfl, rfl⟩
theorem nilEnd (w : World) : Calls Try.prog 27 #[.pointer none] w fun x w' => x = .returned (.int .i64 1) ∧ w = w' := by
  go_enter Try.func27, Try.ntmps27
  go_wp2_with (go_at_call 31; refine (nilErr _).mono ?_; rintro x w1 ⟨rfl, rfl⟩)
  go_ret
  exact ⟨rfl, rfl⟩
theorem nil_walk (w : World) : Calls Try.prog 7 #[] w fun e w' => e = .returned (.bool true) ∧ Below w.heap.size w w' := by
  go_enter Try.func7, Try.ntmps7
  go_wp2_with (first
    | (go_at_call 8; refine (awake_any _).mono ?_; rintro e w1 ⟨rfl, hb1⟩)
    | (go_at_call 25; refine (nilFail _ _).mono ?_; rintro x w2 ⟨rfl, rfl⟩)
    | (go_at_call 29; refine (nilOne _).mono ?_; rintro x w2 ⟨rfl, rfl⟩)
    | (go_at_call 20; refine (nilEight _).mono ?_; rintro x w2 ⟨rfl, rfl⟩)
    | (go_at_call 21; refine (nilText _).mono ?_; rintro x w2 ⟨rfl, rfl⟩)
    | (go_at_call 23; refine (nilTake _ _).mono ?_; rintro x w2 ⟨rfl, rfl⟩)
    | (go_at_call 30; refine (nilLeft _).mono ?_; rintro x w2 ⟨rfl, rfl⟩)
    | (go_at_call 31; refine (nilErr _).mono ?_; rintro x w2 ⟨rfl, rfl⟩)
    | (go_at_call 27; refine (nilEnd _).mono ?_; rintro x w2 ⟨rfl, rfl⟩))
  go_ret
  exact ⟨rfl, hb1⟩
end Go.Proofs.Ytgkonmidgeanmaa
