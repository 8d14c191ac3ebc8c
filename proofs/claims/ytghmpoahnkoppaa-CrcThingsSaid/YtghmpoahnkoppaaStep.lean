/- The contracts of the functions that take a number one bit on, and eight. -/
import Derived.Test.YtghmpoahnkoppaaRows
import Derived.Test.YtghmpoahnkoppaaMath
import Derived.WalkKit
import Derived.Lib.Hide
namespace Go.Proofs.Ytghmpoahnkoppaa
open Go.RowKit
theorem ret_u32 {a b : Int} (h : a = b) : Ending.returned (.int .u32 a) = .returned (.int .u32 b) := by rw [h]
theorem and_one (n : Nat) (h : n < 4294967296) : bits .and .u32 (n : Int) 1 = ((n % 2 : Nat) : Int) := by
  have := u32_and_nat n 1 h (by decide)
  rw [Nat.and_one_is_mod] at this
  exact this
theorem xor_poly (n : Nat) (h : n < 4294967296) : bits .xor .u32 ((n : Int) / 2) 3988292384 = ((n / 2 ^^^ 3988292384 : Nat) : Int) :=
  u32_xor_nat (n / 2) 3988292384 (by omega) (by decide)
theorem step_any (n : Nat) (h : n < 4294967296) (w : World) :
    Calls Try.prog 24 #[.int .u32 n] w fun e w' => e = .returned (.int .u32 (Crc.step n : Nat)) ∧ w = w' := by
  have ha := and_one n h
  by_cases hp : n % 2 = 1
  · have e : Crc.step n = (n / 2) ^^^ 3988292384 := by unfold Crc.step; rw [if_pos hp]
    have hb : (bits .and .u32 (n : Int) 1 == 1) = true := by rw [ha, hp]; rfl
    have HX := Lib.hid (xor_poly n h)
    rw [e]
    clear ha hp e
    go_enter Try.func24, Try.ntmps24
    go_wp2
    go_ret
    exact ⟨ret_u32 HX.out, rfl⟩
  · have e : Crc.step n = n / 2 := by unfold Crc.step; rw [if_neg hp]
    have hb : (bits .and .u32 (n : Int) 1 == 1) = false := by rw [ha, show n % 2 = 0 by omega]; rfl
    rw [e]
    clear ha hp e
    go_enter Try.func24, Try.ntmps24
    go_wp2
    go_ret
    exact ⟨ret_u32 (by omega), rfl⟩
theorem refStep_any (n : Nat) (h : n < 4294967296) (w : World) :
    Calls Try.prog 25 #[.int .u32 n] w fun e w' => e = .returned (.int .u32 (Crc.step n : Nat)) ∧ w = w' := by
  by_cases hp : n % 2 = 1
  · have e : Crc.step n = (n / 2) ^^^ 3988292384 := by unfold Crc.step; rw [if_pos hp]
    have hb : ((n : Int) % 2 == 1) = true := by rw [show (n : Int) % 2 = 1 by omega]; rfl
    have HX := Lib.hid (xor_poly n h)
    rw [e]
    clear hp e
    go_enter Try.func25, Try.ntmps25
    go_wp2
    go_ret
    exact ⟨ret_u32 HX.out, rfl⟩
  · have e : Crc.step n = n / 2 := by unfold Crc.step; rw [if_neg hp]
    have hb : ((n : Int) % 2 == 1) = false := by rw [show (n : Int) % 2 = 0 by omega]; rfl
    rw [e]
    clear hp e
    go_enter Try.func25, Try.ntmps25
    go_wp2
    go_ret
    exact ⟨ret_u32 (by omega), rfl⟩
theorem refByte_any (n : Nat) (h : n < 4294967296) (w : World) :
    Calls Try.prog 10 #[.int .u32 n] w fun e w' => e = .returned (.int .u32 (Crc.byte n : Nat)) ∧ w = w' := by
  go_enter Try.func10, Try.ntmps10
  go_wp2
  go_loop [0, 3] (fun v i => ∃ k : Nat, k ≤ 8 ∧ i = .int .i64 k ∧ v = .int .u32 (Crc.steps k n : Nat)) (fun _ i => 8 - (intOf i).toNat)
  case atStart => exact ⟨0, by omega, rfl, rfl⟩
  case round =>
    obtain ⟨k, hk, rfl, rfl⟩ := hrel
    have hl := Crc.steps_lt h k
    by_cases hlt : k < 8
    · go_wp2_with (go_at_call 25; refine (refStep_any _ hl _).mono ?_; rintro e w' ⟨rfl, rfl⟩)
      go_round
      case rel => exact ⟨k + 1, by omega, by go_num, rfl⟩
      case measure => simp [intOf]; omega
    · obtain rfl : k = 8 := by omega
      go_wp2
      go_ret
      exact ⟨rfl, rfl⟩
end Go.Proofs.Ytghmpoahnkoppaa
