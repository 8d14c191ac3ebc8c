/- A queue and a message that are handed in, opened. -/
import Derived.Test.YtfoijhofpjaldaaRecA
import Derived.ProofKit
import Derived.OpenShut
import Derived.Lib.SmallJoins
import Derived.WalkKit
set_option maxRecDepth 100000
set_option maxHeartbeats 4000000
set_option linter.unusedVariables false
namespace Go.Proofs.Ytfoijhofpjaldaa
open Go.Joins Go.ChangeShapes Go.WideShapes Go.ChangeAt Go.RowKit Go.Deep
theorem bnd_u32 {q : Int} (h : (Lit.int .u32 q).wf = true) : 0 ≤ q ∧ q < 4294967296 := by
  simp [Lit.wf, IntKind.min, IntKind.max, IntKind.signed, IntKind.bits] at h
  omega
theorem bnd_u64 {q : Int} (h : (Lit.int .u64 q).wf = true) : 0 ≤ q ∧ q < 18446744073709551616 := by
  simp [Lit.wf, IntKind.min, IntKind.max, IntKind.signed, IntKind.bits] at h
  omega
theorem co_s : Try.prog.cellsOf 9 = 1 := by kernel_rfl
theorem co_u32 : Try.prog.cellsOf 22 = 1 := by kernel_rfl
theorem co_u64 : Try.prog.cellsOf 23 = 1 := by kernel_rfl
theorem lst5 {α : Type} (l : List α) (h : l.length = 5) : ∃ a0 a1 a2 a3 a4, l = [a0, a1, a2, a3, a4] := by
  rcases l with _ | ⟨a0, _ | ⟨a1, _ | ⟨a2, _ | ⟨a3, _ | ⟨a4, _ | ⟨z, l⟩⟩⟩⟩⟩⟩
  all_goals first | (cases h; done) | exact ⟨_, _, _, _, _, rfl⟩ | (simp at h)
theorem cs_queue : Try.prog.cellsOf 25 = 5 := by kernel_rfl
set_option maxRecDepth 100000 in
theorem open_queue {H : Type} {enc : TypeId × Value → H} {W : World} {r : Reach} {b0 b1 : Nat} {sp : Nat → Bool} {held : Bool} {v : Value} {d : DataW H} {p : List MemPlace}
    (hv : Value.okWide Try.prog W r b0 25 v) (h : DataW.Trod enc Try.prog W b1 sp held 25 v d p) :
    ∃ (k0 : ByteArray) (k1 : Nat) (k2 : Nat) (k3 : Nat) (k4 : ByteArray), v = .agg #[.string k0, .int .u32 k1, .int .u64 k2, .int .u32 k3, .string k4] ∧ k1 < 4294967296 ∧ k2 < 18446744073709551616 ∧ k3 < 4294967296 := by
  obtain ⟨cs, rfl, hsz⟩ := okWide_struct Try.underlying25 hv
  obtain ⟨fuel, hf⟩ := h
  obtain ⟨xs, k, hk, hxy, _, hxl, hf'⟩ := DataW.trod_struct Try.underlying25 hf
  obtain ⟨l⟩ := cs
  have hl : l.length = 5 := by
    have := hsz.trans cs_queue
    simpa using this
  obtain ⟨v0, v1, v2, v3, v4, rfl⟩ := lst5 l hl
  obtain ⟨y0, y1, y2, y3, y4, rfl⟩ := lst5 xs hxl
  have g0 : DataW.trod enc Try.prog W b1 sp held k 9 ([v0, v1, v2, v3, v4].drop 0 |>.take (Try.prog.cellsOf 9)) = some y0 := hf' 0 _ rfl
  rw [co_s] at g0
  have g1 : DataW.trod enc Try.prog W b1 sp held k 22 ([v0, v1, v2, v3, v4].drop 1 |>.take (Try.prog.cellsOf 22)) = some y1 := hf' 1 _ rfl
  rw [co_u32] at g1
  have g2 : DataW.trod enc Try.prog W b1 sp held k 23 ([v0, v1, v2, v3, v4].drop 2 |>.take (Try.prog.cellsOf 23)) = some y2 := hf' 2 _ rfl
  rw [co_u64] at g2
  have g3 : DataW.trod enc Try.prog W b1 sp held k 22 ([v0, v1, v2, v3, v4].drop 3 |>.take (Try.prog.cellsOf 22)) = some y3 := hf' 3 _ rfl
  rw [co_u32] at g3
  have g4 : DataW.trod enc Try.prog W b1 sp held k 9 ([v0, v1, v2, v3, v4].drop 4 |>.take (Try.prog.cellsOf 9)) = some y4 := hf' 4 _ rfl
  rw [co_s] at g4
  obtain ⟨s0, h0, _, _⟩ := DataW.trod_string Try.underlying9 g0
  have e0 : v0 = .string s0 := by simpa using h0
  obtain ⟨q1, h1, _, w1⟩ := DataW.trod_int Try.underlying22 g1
  have e1 : v1 = .int .u32 q1 := by simpa using h1
  obtain ⟨m1, n1⟩ := bnd_u32 w1
  obtain ⟨N1, rfl⟩ := Int.eq_ofNat_of_zero_le m1
  obtain ⟨q2, h2, _, w2⟩ := DataW.trod_int Try.underlying23 g2
  have e2 : v2 = .int .u64 q2 := by simpa using h2
  obtain ⟨m2, n2⟩ := bnd_u64 w2
  obtain ⟨N2, rfl⟩ := Int.eq_ofNat_of_zero_le m2
  obtain ⟨q3, h3, _, w3⟩ := DataW.trod_int Try.underlying22 g3
  have e3 : v3 = .int .u32 q3 := by simpa using h3
  obtain ⟨m3, n3⟩ := bnd_u32 w3
  obtain ⟨N3, rfl⟩ := Int.eq_ofNat_of_zero_le m3
  obtain ⟨s4, h4, _, _⟩ := DataW.trod_string Try.underlying9 g4
  have e4 : v4 = .string s4 := by simpa using h4
  exact ⟨s0, N1, N2, N3, s4, by rw [e0, e1, e2, e3, e4], by omega, by omega, by omega⟩
theorem cs_message : Try.prog.cellsOf 27 = 5 := by kernel_rfl
set_option maxRecDepth 100000 in
theorem open_message {H : Type} {enc : TypeId × Value → H} {W : World} {r : Reach} {b0 b1 : Nat} {sp : Nat → Bool} {held : Bool} {v : Value} {d : DataW H} {p : List MemPlace}
    (hv : Value.okWide Try.prog W r b0 27 v) (h : DataW.Trod enc Try.prog W b1 sp held 27 v d p) :
    ∃ (k0 : ByteArray) (k1 : Nat) (k2 : Nat) (k3 : Nat) (k4 : ByteArray), v = .agg #[.string k0, .int .u64 k1, .int .u32 k2, .int .u64 k3, .string k4] ∧ k1 < 18446744073709551616 ∧ k2 < 4294967296 ∧ k3 < 18446744073709551616 := by
  obtain ⟨cs, rfl, hsz⟩ := okWide_struct Try.underlying27 hv
  obtain ⟨fuel, hf⟩ := h
  obtain ⟨xs, k, hk, hxy, _, hxl, hf'⟩ := DataW.trod_struct Try.underlying27 hf
  obtain ⟨l⟩ := cs
  have hl : l.length = 5 := by
    have := hsz.trans cs_message
    simpa using this
  obtain ⟨v0, v1, v2, v3, v4, rfl⟩ := lst5 l hl
  obtain ⟨y0, y1, y2, y3, y4, rfl⟩ := lst5 xs hxl
  have g0 : DataW.trod enc Try.prog W b1 sp held k 9 ([v0, v1, v2, v3, v4].drop 0 |>.take (Try.prog.cellsOf 9)) = some y0 := hf' 0 _ rfl
  rw [co_s] at g0
  have g1 : DataW.trod enc Try.prog W b1 sp held k 23 ([v0, v1, v2, v3, v4].drop 1 |>.take (Try.prog.cellsOf 23)) = some y1 := hf' 1 _ rfl
  rw [co_u64] at g1
  have g2 : DataW.trod enc Try.prog W b1 sp held k 22 ([v0, v1, v2, v3, v4].drop 2 |>.take (Try.prog.cellsOf 22)) = some y2 := hf' 2 _ rfl
  rw [co_u32] at g2
  have g3 : DataW.trod enc Try.prog W b1 sp held k 23 ([v0, v1, v2, v3, v4].drop 3 |>.take (Try.prog.cellsOf 23)) = some y3 := hf' 3 _ rfl
  rw [co_u64] at g3
  have g4 : DataW.trod enc Try.prog W b1 sp held k 9 ([v0, v1, v2, v3, v4].drop 4 |>.take (Try.prog.cellsOf 9)) = some y4 := hf' 4 _ rfl
  rw [co_s] at g4
  obtain ⟨s0, h0, _, _⟩ := DataW.trod_string Try.underlying9 g0
  have e0 : v0 = .string s0 := by simpa using h0
  obtain ⟨q1, h1, _, w1⟩ := DataW.trod_int Try.underlying23 g1
  have e1 : v1 = .int .u64 q1 := by simpa using h1
  obtain ⟨m1, n1⟩ := bnd_u64 w1
  obtain ⟨N1, rfl⟩ := Int.eq_ofNat_of_zero_le m1
  obtain ⟨q2, h2, _, w2⟩ := DataW.trod_int Try.underlying22 g2
  have e2 : v2 = .int .u32 q2 := by simpa using h2
  obtain ⟨m2, n2⟩ := bnd_u32 w2
  obtain ⟨N2, rfl⟩ := Int.eq_ofNat_of_zero_le m2
  obtain ⟨q3, h3, _, w3⟩ := DataW.trod_int Try.underlying23 g3
  have e3 : v3 = .int .u64 q3 := by simpa using h3
  obtain ⟨m3, n3⟩ := bnd_u64 w3
  obtain ⟨N3, rfl⟩ := Int.eq_ofNat_of_zero_le m3
  obtain ⟨s4, h4, _, _⟩ := DataW.trod_string Try.underlying9 g4
  have e4 : v4 = .string s4 := by simpa using h4
  exact ⟨s0, N1, N2, N3, s4, by rw [e0, e1, e2, e3, e4], by omega, by omega, by omega⟩
end Go.Proofs.Ytfoijhofpjaldaa
