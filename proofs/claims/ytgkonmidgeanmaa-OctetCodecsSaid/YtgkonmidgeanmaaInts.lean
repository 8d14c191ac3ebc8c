/- The calls of a codec that has no function. -/
import Derived.Test.YtgkonmidgeanmaaRList
namespace Go.Proofs.Ytgkonmidgeanmaa
open Go.RowKit
theorem nil_nil68 (w : World) : (binOp .eql 68 .nilFunc .nilFunc).run Try.prog w = .ok (.bool true) w := by kernel_rfl
theorem nil_nil45 (w : World) : (binOp .eql 45 .nilFunc .nilFunc).run Try.prog w = .ok (.bool true) w := by kernel_rfl
theorem read_int (s : ByteArray) (w : World) :
    Calls Try.prog 36 #[.agg #[.nilFunc, .nilFunc], .string s] w fun e w' => e = .returned (.tuple #[.int .i64 0, .int .i64 2]) ∧ Below w.heap.size w w' := by
  have heq := nil_nil68
  go_enter Try.func36, Try.ntmps36
  go_wp2
  go_ret2
  exact ⟨rfl, (Below.refl _ _).alloc (Nat.le_refl _) _⟩
theorem readList_int (s : ByteArray) (n : Int) (w : World) :
    Calls Try.prog 37 #[.agg #[.nilFunc, .nilFunc], .string s, .int .i64 n] w fun e w' => e = .returned (.tuple #[.slice none 0 0, .int .i64 2]) ∧ Below w.heap.size w w' := by
  have heq := nil_nil68
  go_enter Try.func37, Try.ntmps37
  go_wp2
  go_ret2
  exact ⟨rfl, (Below.refl _ _).alloc (Nat.le_refl _) _⟩
theorem bytes_int (n : Int) (w : World) :
    Calls Try.prog 38 #[.agg #[.nilFunc, .nilFunc], .int .i64 n] w fun e w' => e = .returned (.string ⟨#[]⟩) ∧ Below w.heap.size w w' := by
  have heq := nil_nil45
  go_enter_defers Try.func38, Try.ntmps38
  go_wp2
  simp [bodyPostD, Leaves, results, Try.results38, go_sem]
  exact below_step ((Below.refl _ _).alloc (Nat.le_refl _) _) ((Below.refl _ _).alloc (Nat.le_refl _) _)
end Go.Proofs.Ytgkonmidgeanmaa
