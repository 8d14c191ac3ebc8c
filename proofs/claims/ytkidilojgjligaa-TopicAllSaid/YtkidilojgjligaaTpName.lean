/- topic.Name, and the document's. -/
import Derived.Test.YtkidilojgjligaaTpBase
import Derived.BigQuiet
set_option maxRecDepth 100000
set_option maxHeartbeats 4000000
set_option linter.unusedVariables false
namespace Go.Proofs.Ytkidilojgjligaa
open Go.RowKit
open Tp
theorem plain_bits (c : UInt8) : plainB c = (decide (97 ≤ (c.toNat : Int)) && decide ((c.toNat : Int) ≤ 122) || decide (65 ≤ (c.toNat : Int)) && decide ((c.toNat : Int) ≤ 90) || decide (48 ≤ (c.toNat : Int)) && decide ((c.toNat : Int) ≤ 57) || decide ((c.toNat : Int) = 45) || decide ((c.toNat : Int) = 95)) := by
  unfold plainB
  rw [Bool.eq_iff_iff]
  simp only [Bool.or_eq_true, Bool.and_eq_true, decide_eq_true_eq, UInt8.le_iff_toNat_le, ← UInt8.toNat_inj]
  have h : c.toNat < 256 := c.toNat_lt
  simp only [show (97 : UInt8).toNat = 97 from rfl, show (122 : UInt8).toNat = 122 from rfl, show (65 : UInt8).toNat = 65 from rfl, show (90 : UInt8).toNat = 90 from rfl, show (48 : UInt8).toNat = 48 from rfl, show (57 : UInt8).toNat = 57 from rfl, show (45 : UInt8).toNat = 45 from rfl, show (95 : UInt8).toNat = 95 from rfl]
  omega
theorem plain_any (c : UInt8) (w : World) : Calls Try.prog 25 #[.int .u8 c.toNat] w fun e w' => e = .returned (.bool (plainB c)) ∧ w = w' := by
  have HP := Lib.hid (plain_bits c)
  go_enter Try.func25, Try.ntmps25
  go_wp2
  all_goals
    go_ret
    refine ⟨ret_bool ?_, rfl⟩
    rw [HP.out]
    rw [Bool.eq_iff_iff]
    simp only [Bool.or_eq_true, Bool.and_eq_true, decide_eq_true_eq, beq_iff_eq]
    first | omega | (simp; omega) | (simp; done)
def GOOD : Txt := [97, 98, 99, 100, 101, 102, 103, 104, 105, 106, 107, 108, 109, 110, 111, 112, 113, 114, 115, 116, 117, 118, 119, 120, 121, 122, 65, 66, 67, 68, 69, 70, 71, 72, 73, 74, 75, 76, 77, 78, 79, 80, 81, 82, 83, 84, 85, 86, 87, 88, 89, 90, 48, 49, 50, 51, 52, 53, 54, 55, 56, 57, 45, 95]
theorem good_plain : ∀ c : UInt8, GOOD.any (fun g => decide (g = c)) = plainB c := by
  have h : ∀ n : Fin 256, GOOD.any (fun g => decide (g = UInt8.ofNat n.val)) = plainB (UInt8.ofNat n.val) := by decide +kernel
  intro c
  have := h ⟨c.toNat, c.toNat_lt⟩
  simpa using this
theorem name_long {s : Txt} (h : 32 < s.length) : nameB s = false := by
  unfold nameB
  rw [decide_eq_false (p := s.length ≤ 32) (by omega)]
  simp
theorem name_at {s : Txt} {k : Nat} {c : UInt8} (h : s[k]? = some c) (hp : plainB c = false) : nameB s = false := by
  unfold nameB
  have : s.all plainB = false := by
    rw [List.all_eq_false]
    exact ⟨c, List.mem_of_getElem? h, by simp [hp]⟩
  rw [this, Bool.and_false]
theorem all_snoc {p : UInt8 → Bool} {s : Txt} {k : Nat} {c : UInt8} (h : s[k]? = some c) : (s.take (k + 1)).all p = ((s.take k).all p && p c) := by
  rw [take_snoc h, List.all_append]; simp
theorem name_all {s : Txt} (h0 : s ≠ []) (h1 : s.length ≤ 32) (h : (s.take s.length).all plainB = true) : nameB s = true := by
  unfold nameB
  rw [List.take_length] at h
  simp [h0, h1, h]
set_option maxHeartbeats 1000000 in
theorem name_any (s : Txt) (hs : s.length ≤ 100000) (w : World) : Calls Try.prog 7 #[.string (str s)] w fun e w' => e = .returned (.bool (nameB s)) ∧ w = w' := by
  have hz : (str s).size = s.length := rfl
  by_cases h0 : s = []
  · subst h0
    have he : (str ([] : Txt)).toList.isEmpty = true := by rw [strL]; rfl
    go_enter Try.func7, Try.ntmps7
    go_wp2
    go_ret
    exact ⟨rfl, rfl⟩
  · have hn : (str s).toList = s := strL s
    have hn1 : s.isEmpty = false := by cases s with | nil => exact absurd rfl h0 | cons _ _ => rfl
    by_cases h1 : 32 < s.length
    · have h1i : (32 : Int) < (s.length : Int) := by omega
      go_enter Try.func7, Try.ntmps7
      go_wp2
      go_ret
      exact ⟨ret_bool (name_long h1).symm, rfl⟩
    · have h1i : ¬ (32 : Int) < (s.length : Int) := by omega
      go_enter Try.func7, Try.ntmps7
      go_wp2
      go_loopg [13] s.length (fun g i wr => ∃ k : Nat, k ≤ s.length ∧ g = s.length - k ∧ i = .int .i64 k ∧ Hid ((s.take k).all plainB = true) ∧ w = wr)
      case atStart => exact ⟨0, Nat.zero_le _, rfl, rfl, rfl, rfl⟩
      case round =>
        obtain ⟨k, hk, rfl, rfl, HA, rfl⟩ := hrel
        by_cases hlt : k < s.length
        · obtain ⟨c, hc⟩ := some_atP hlt
          have hidx := str_at s k c hc
          by_cases hp : plainB c = true
          · have HS : Hid ((s.take (k + 1)).all plainB = true) := by show _ = _; rw [all_snoc hc, HA.out, hp]; rfl
            have HP := Lib.hid hp
            clear hp hc
            go_wp2_with (go_at_call 25; refine (plain_any _ _).mono ?_; rintro e w1 ⟨rfl, rfl⟩; rw [HP.out])
            go_roundg (s.length - (k + 1))
            case rel => exact ⟨k + 1, by omega, rfl, by go_num, HS, rfl⟩
            case measure => omega
          · have hp' : plainB c = false := by simpa using hp
            have HN := Lib.hid (name_at hc hp')
            have HP := Lib.hid hp'
            clear hp hp' hc
            go_wp2_with (go_at_call 25; refine (plain_any _ _).mono ?_; rintro e w1 ⟨rfl, rfl⟩; rw [HP.out])
            go_ret
            exact ⟨ret_bool HN.out.symm, rfl⟩
        · obtain rfl : k = s.length := by omega
          have HN := Lib.hid (name_all h0 (by omega) HA.out)
          go_wp2
          go_ret
          exact ⟨ret_bool HN.out.symm, rfl⟩
theorem good_any (c : UInt8) (j : Nat) (x : UInt8) (h : GOOD[j]? = some x) : (GOOD.take (j + 1)).any (fun g => decide (g = c)) = ((GOOD.take j).any (fun g => decide (g = c)) || decide (x = c)) := by
  rw [take_snoc h, List.any_append]; simp
theorem name_end {s : Txt} (h : (s.take s.length).all plainB = true) : nameB s = (decide (0 < s.length) && decide (s.length ≤ 32)) := by
  unfold nameB
  rw [List.take_length] at h
  rw [h, Bool.and_true]
  congr 1
  cases s <;> simp
theorem good_str : (⟨#[97, 98, 99, 100, 101, 102, 103, 104, 105, 106, 107, 108, 109, 110, 111, 112, 113, 114, 115, 116, 117, 118, 119, 120, 121, 122, 65, 66, 67, 68, 69, 70, 71, 72, 73, 74, 75, 76, 77, 78, 79, 80, 81, 82, 83, 84, 85, 86, 87, 88, 89, 90, 48, 49, 50, 51, 52, 53, 54, 55, 56, 57, 45, 95]⟩ : ByteArray) = str GOOD := rfl
set_option maxHeartbeats 4000000 in
theorem rName_any (s : Txt) (hs : s.length ≤ 100000) (w : World) : Calls Try.prog 8 #[.string (str s)] w fun e w' => e = .returned (.bool (nameB s)) ∧ ∃ q, w' = w.drewN q := by
  have hz : (str s).size = s.length := rfl
  have hg : (str GOOD).size = 64 := rfl
  go_enter Try.func8, Try.ntmps8
  simp only [good_str]
  go_wp2
  go_loopg [3] s.length (fun g i wr => ∃ k q : Nat, k ≤ s.length ∧ g = s.length - k ∧ i = .int .i64 k ∧ Hid ((s.take k).all plainB = true) ∧ wr = w.drewN q)
  case atStart => exact ⟨0, 0, Nat.zero_le _, rfl, rfl, rfl, rfl⟩
  case round =>
    obtain ⟨k, q, hk, rfl, rfl, HA, rfl⟩ := hrel
    by_cases hlt : k < s.length
    · obtain ⟨c, hc⟩ := some_atP hlt
      have hidx := str_at s k c hc
      have HC := Lib.hid hc
      clear hc
      go_wp2_with fail
      go_loopg [4, 5] 64 (fun g b j wr => ∃ m q : Nat, m ≤ 64 ∧ g = 64 - m ∧ j = .int .i64 m ∧ b = .bool ((GOOD.take m).any (fun g => decide (g = c))) ∧ wr = w.drewN q)
      case atStart => exact ⟨0, q, by omega, rfl, rfl, rfl, rfl⟩
      case round =>
        obtain ⟨m, q2, hm, rfl, rfl, rfl, rfl⟩ := hrel
        by_cases hm64 : m < 64
        · obtain ⟨x, hx⟩ := some_atP (show m < GOOD.length from hm64)
          have hidx2 := str_at GOOD m x hx
          have HG := Lib.hid (good_any c m x hx)
          clear hx
          revert HG
          generalize (GOOD.take m).any (fun g => decide (g = c)) = b0
          intro HG
          have HQ : ∀ (W : World) q, W.drewN q = W.drewN q := fun _ _ => rfl
          clear HQ
          by_cases hxc : x = c
          · subst hxc
            have HR : Hid ((GOOD.take (m + 1)).any (fun g => decide (g = x)) = true) := by show _ = _; rw [HG.out]; simp
            clear HG
            cases b0
            all_goals
              go_wp2_with fail
              go_quiet (fail)
              go_wp2
              go_roundg (64 - (m + 1))
              case rel => exact ⟨m + 1, _, by omega, rfl, by go_num, by rw [HR.out], rfl⟩
              case measure => omega
          · have hne : ((x.toNat : Int) == (c.toNat : Int)) = false := by
              rw [beq_eq_false_iff_ne]; intro h; exact hxc (UInt8.toNat_inj.1 (by omega))
            have HR : Hid ((GOOD.take (m + 1)).any (fun g => decide (g = c)) = b0) := by show _ = _; rw [HG.out, decide_eq_false hxc, Bool.or_false]
            clear HG hxc
            cases b0
            all_goals
              go_wp2_with fail
              go_quiet (fail)
              go_wp2
              go_roundg (64 - (m + 1))
              case rel => exact ⟨m + 1, _, by omega, rfl, by go_num, by rw [HR.out], rfl⟩
              case measure => omega
        · obtain rfl : m = 64 := by omega
          rw [show (GOOD.take 64).any (fun g => decide (g = c)) = plainB c from good_plain c]
          by_cases hp : plainB c = true
          · have HS : Hid ((s.take (k + 1)).all plainB = true) := by show _ = _; rw [all_snoc HC.out, HA.out, hp]; rfl
            rw [hp]
            clear hp
            go_wp2
            go_roundg (s.length - (k + 1))
            case rel => exact ⟨k + 1, _, by omega, rfl, by go_num, HS, rfl⟩
            case measure => omega
          · have hp' : plainB c = false := by simpa using hp
            have HN := Lib.hid (name_at HC.out hp')
            rw [hp']
            clear hp hp'
            go_wp2
            go_ret
            exact ⟨ret_bool HN.out.symm, _, rfl⟩
    · obtain rfl : k = s.length := by omega
      have HN := Lib.hid (name_end HA.out)
      go_wp2
      all_goals
        go_ret
        refine ⟨ret_bool ?_, _, rfl⟩
        rw [HN.out]
        first | (rw [Bool.eq_iff_iff]; simp only [Bool.and_eq_true, decide_eq_true_eq]; omega) | (simp; omega)
end Go.Proofs.Ytkidilojgjligaa
