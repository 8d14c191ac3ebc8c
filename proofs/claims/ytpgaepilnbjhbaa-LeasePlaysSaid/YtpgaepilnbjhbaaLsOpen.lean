/- Keys that are handed in by value. -/
import Derived.Test.YtpgaepilnbjhbaaLsBase
import Derived.ProofKit
import Derived.OpenShut
import Derived.Lib.SmallJoins
import Derived.WalkKit
set_option maxRecDepth 100000
set_option maxHeartbeats 4000000
set_option linter.unusedVariables false
namespace Go.Proofs.Ytpgaepilnbjhbaa
open Go.Joins Go.ChangeShapes Go.WideShapes Go.ChangeAt Go.RowKit Go.Deep
theorem bnd_u64 {q : Int} (h : (Lit.int .u64 q).wf = true) : 0 ≤ q ∧ q < 18446744073709551616 := by
  simp [Lit.wf, IntKind.min, IntKind.max, IntKind.signed, IntKind.bits] at h
  omega
theorem co_s : Try.prog.cellsOf 9 = 1 := by kernel_rfl
theorem co_u64 : Try.prog.cellsOf 32 = 1 := by kernel_rfl
theorem lst2 {α : Type} (l : List α) (h : l.length = 2) : ∃ a0 a1, l = [a0, a1] := by
  rcases l with _ | ⟨a0, _ | ⟨a1, _ | ⟨z, l⟩⟩⟩
  all_goals first | (cases h; done) | exact ⟨_, _, rfl⟩ | (simp at h)
theorem cs_key : Try.prog.cellsOf 34 = 2 := by kernel_rfl
set_option maxRecDepth 100000 in
theorem open_key {H : Type} {enc : TypeId × Value → H} {W : World} {r : Reach} {b0 b1 : Nat} {sp : Nat → Bool} {held : Bool} {v : Value} {d : DataW H} {p : List MemPlace}
    (hv : Value.okWide Try.prog W r b0 34 v) (h : DataW.Trod enc Try.prog W b1 sp held 34 v d p) :
    ∃ (k0 : ByteArray) (k1 : Nat), v = .agg #[.string k0, .int .u64 k1] ∧ k1 < 18446744073709551616 := by
  obtain ⟨cs, rfl, hsz⟩ := okWide_struct Try.underlying34 hv
  obtain ⟨fuel, hf⟩ := h
  obtain ⟨xs, k, hk, hxy, _, hxl, hf'⟩ := DataW.trod_struct Try.underlying34 hf
  obtain ⟨l⟩ := cs
  have hl : l.length = 2 := by
    have := hsz.trans cs_key
    simpa using this
  obtain ⟨v0, v1, rfl⟩ := lst2 l hl
  obtain ⟨y0, y1, rfl⟩ := lst2 xs hxl
  have g0 : DataW.trod enc Try.prog W b1 sp held k 9 ([v0, v1].drop 0 |>.take (Try.prog.cellsOf 9)) = some y0 := hf' 0 _ rfl
  rw [co_s] at g0
  have g1 : DataW.trod enc Try.prog W b1 sp held k 32 ([v0, v1].drop 1 |>.take (Try.prog.cellsOf 32)) = some y1 := hf' 1 _ rfl
  rw [co_u64] at g1
  obtain ⟨s0, h0, _, _⟩ := DataW.trod_string Try.underlying9 g0
  have e0 : v0 = .string s0 := by simpa using h0
  obtain ⟨q1, h1, _, w1⟩ := DataW.trod_int Try.underlying32 g1
  have e1 : v1 = .int .u64 q1 := by simpa using h1
  obtain ⟨m1, n1⟩ := bnd_u64 w1
  obtain ⟨N1, rfl⟩ := Int.eq_ofNat_of_zero_le m1
  exact ⟨s0, N1, by rw [e0, e1], by omega⟩
end Go.Proofs.Ytpgaepilnbjhbaa
