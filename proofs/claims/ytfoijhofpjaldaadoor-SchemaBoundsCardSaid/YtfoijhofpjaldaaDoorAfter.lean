/- What stands behind a beginning: the contracts of After, Next and HasPrefix. -/
import Derived.Test.YtfoijhofpjaldaaDoorWrite
import Derived.Test.YtfoijhofpjaldaaDoorOMath
import Derived.Test.YtfoijhofpjaldaaDoorBig
import Derived.Deep.LoopGhost
import Derived.Deep.QuietTactic
import Derived.Deep.DeepMust
import Derived.Lib.Strings
set_option maxRecDepth 100000
set_option maxHeartbeats 4000000
set_option linter.unusedVariables false
namespace Go.Proofs.YtfoijhofpjaldaaDoor
open Go.RowKit
theorem ret_bool {a b : Bool} (h : a = b) : Ending.returned (.bool a) = .returned (.bool b) := by rw [h]
theorem prefix_take (s p : ByteArray) : ((s.extract 0 p.size).data.toList == p.data.toList) = p.data.toList.isPrefixOf s.data.toList := by
  have e : (s.extract 0 p.size).data.toList = s.data.toList.take p.data.toList.length := by simp
  rw [e, Bool.eq_iff_iff, beq_iff_eq, List.isPrefixOf_iff_prefix, List.prefix_iff_eq_take]
  exact eq_comm
theorem ret_two {a b : ByteArray} {c : Value} (h : a = b) : Ending.returned (.tuple #[.string a, c]) = .returned (.tuple #[.string b, c]) := by rw [h]
def pre (p s : List UInt8) : Bool := p.isPrefixOf s
theorem lite_any (s p : ByteArray) (w : World) :
    Calls Tryd.prog 15 #[.string s, .string p] w fun e w' => e = .returned (.bool (pre p.data.toList s.data.toList)) ∧ w = w' := by
  by_cases h : p.size ≤ s.size
  · have h1 : (p.size : Int) ≤ (s.size : Int) := by omega
    have h2 : (0 : Int) ≤ (p.size : Int) := by omega
    go_enter Tryd.func15, Tryd.ntmps15
    go_wp2
    go_ret
    refine ⟨ret_bool ?_, rfl⟩
    rw [Lib.toList_data, Lib.toList_data]
    exact prefix_take s p
  · have h1 : ¬ (p.size : Int) ≤ (s.size : Int) := by omega
    go_enter Tryd.func15, Tryd.ntmps15
    go_wp2
    go_ret
    refine ⟨ret_bool ?_, rfl⟩
    symm
    rw [← Bool.not_eq_true]
    intro hp
    have := (List.isPrefixOf_iff_prefix.1 hp).length_le
    exact h (by simpa using this)
/-- The least text behind all with a beginning, if there is one. -/
def aft : List UInt8 → List UInt8 × Bool
  | [] => ([], false)
  | b :: l => if (aft l).2 then (b :: (aft l).1, true) else if b = 255 then ([], false) else ([b + 1], true)
theorem aft_hit {b : UInt8} {l : List UInt8} (h : (aft l).2 = false) (hb : b ≠ 255) : aft (b :: l) = ([b + 1], true) := by simp [aft, h, hb]
theorem aft_miss {b : UInt8} {l : List UInt8} (h : (aft l).2 = false) (hb : b = 255) : (aft (b :: l)).2 = false := by simp [aft, h, hb]
theorem aft_app {l x : List UInt8} (h : aft l = (x, true)) : ∀ m : List UInt8, aft (m ++ l) = (m ++ x, true)
  | [] => h
  | b :: m => by simp [aft, aft_app h m]
theorem aft_none : ∀ l : List UInt8, (aft l).2 = false → aft l = ([], false)
  | [], _ => rfl
  | b :: l, h => by
    by_cases h1 : (aft l).2 = true
    · simp [aft, h1] at h
    · by_cases hb : b = 255
      · simp [aft, h1, hb]
      · simp [aft, h1, hb] at h
theorem drop_at (s : ByteArray) (j : Nat) (h : j < s.size) : s.data.toList.drop j = s[j] :: s.data.toList.drop (j + 1) := by
  rw [List.drop_eq_getElem_cons (by simpa using h)]; rfl
theorem take_str (s : ByteArray) (j : Nat) : s.extract 0 j = str (s.data.toList.take j) := by
  rw [← str_eq (s.extract 0 j), show (s.extract 0 j).data.toList = s.data.toList.take j by simp]
theorem after_any (s : ByteArray) (hs : s.size ≤ 1000) (w : World) :
    Calls Tryd.prog 13 #[.string s] w fun e w' => e = .returned (.tuple #[.string (str (aft s.data.toList).1), .bool (aft s.data.toList).2]) ∧ Below w.heap.size w w' := by
  go_enter Tryd.func13, Tryd.ntmps13
  go_wp2
  go_loopg [4] (s.size) (fun g i wr => g ≤ s.size ∧ i = .int .i64 ((g : Int) - 1) ∧ Hid ((aft (s.data.toList.drop g)).2 = false) ∧ Hid (w = wr))
  case atStart => exact ⟨Nat.le_refl _, rfl, by rw [List.drop_of_length_le (by simp)]; rfl, rfl⟩
  case round =>
    obtain ⟨hk, rfl, H1, rfl⟩ := hrel
    by_cases h0 : gk = 0
    · subst h0
      go_wp2
      go_ret2
      have h := aft_none _ H1.out
      rw [List.drop_zero] at h
      rw [h]
      exact ⟨rfl, Below.refl _ _⟩
    · obtain ⟨j, rfl⟩ : ∃ j, gk = j + 1 := ⟨gk - 1, by omega⟩
      rw [show ((j + 1 : Nat) : Int) - 1 = (j : Int) by omega]
      have hj : j < s.size := by omega
      have hd := drop_at s j hj
      by_cases hb : s[j] = 255
      · have hb' : (s[j].toNat : Int) = 255 := by rw [hb]; rfl
        have H2 := Lib.hid (aft_miss H1.out hb)
        rw [← hd] at H2
        clear hd hb
        go_wp2
        go_roundg j
        case measure => omega
        case rel => exact ⟨by omega, by go_num, H2, rfl⟩
      · have hb' : ((s[j].toNat : Int) == 255) = false := by
          rw [beq_eq_false_iff_ne]
          intro h
          exact hb (UInt8.toNat_inj.1 (by show s[j].toNat = 255; omega))
        have hlt := s[j].toNat_lt
        have hc : s[j].toNat + 1 < 256 := by
          have := beq_eq_false_iff_ne.1 hb'
          omega
        have H2 := Lib.hid (aft_hit H1.out hb)
        rw [← hd] at H2
        have H3 := Lib.hid (aft_app H2.out (s.data.toList.take j))
        rw [List.take_append_drop] at H3
        clear hd hb H2
        have hj1 : (j : Int) < (s.size : Int) := by omega
        have hj2 : (j : Int) ≤ (s.size : Int) := by omega
        have hz := big_size
        have hzj : (s.extract 0 j).size = j := by rw [ByteArray.size_extract]; omega
        have HS : Hid (s.extract 0 j ++ str (Oc.big 1 (s[j].toNat + 1)) = str (s.data.toList.take j ++ [s[j] + 1])) := by
          rw [← str_append]
          congr 1
          · exact take_str s j
          · congr 1
            show [UInt8.ofNat ((s[j].toNat + 1) % 256)] = [s[j] + 1]
            congr 1
            apply UInt8.toNat_inj.1
            rw [UInt8.toNat_ofNat', UInt8.toNat_add]
            simp
        go_wp2_with fail
        go_region_with (go_at_call 17; refine (one_at _ (s[j].toNat + 1) ?_ hc _).mono ?_; (first | omega | (rw [IntKind.wrap_u8]; omega)); rintro e w1 ⟨rfl, hb1⟩)
        all_goals (go_wp2; go_ret2; rw [H3.out]; exact ⟨ret_two HS.out, hb1.os, hb1.tape, hb1.output, hb1.size, hb1.block⟩)
theorem hasPrefix_any (s p : ByteArray) (w : World) :
    Calls Tryd.prog 9 #[.string s, .string p] w fun e w' => e = .returned (.bool (pre p.data.toList s.data.toList)) ∧ w = w' := by
  go_enter Tryd.func9, Tryd.ntmps9
  go_wp2_with (go_at_call 15; refine (lite_any _ _ _).mono ?_; rintro e w1 ⟨rfl, rfl⟩)
  go_ret
  exact ⟨rfl, rfl⟩
end Go.Proofs.YtfoijhofpjaldaaDoor
