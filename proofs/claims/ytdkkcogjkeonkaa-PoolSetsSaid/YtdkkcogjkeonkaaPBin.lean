/- What two numbers are to each other; where a number stands in a rising row. -/
import Derived.Test.YtdkkcogjkeonkaaPRef2
set_option maxRecDepth 100000
set_option maxHeartbeats 4000000
set_option linter.unusedVariables false
namespace Go.Proofs.Ytdkkcogjkeonkaa
open Go.RowKit
theorem cNaN_any (x : Nat) (w : World) : Calls Try.prog 57 #[.int .u32 x] w fun e w' => e = .returned (.bool false) ∧ w = w' := by
  go_enter Try.func57, Try.ntmps57
  go_wp2
  go_ret
  exact ⟨rfl, rfl⟩
theorem cLess_any (x y : Nat) (w : World) : Calls Try.prog 52 #[.int .u32 x, .int .u32 y] w fun e w' => e = .returned (.bool (decide (x < y))) ∧ w = w' := by
  have hd : decide ((x : Int) < (y : Int)) = decide (x < y) := by congr 1; apply propext; omega
  go_enter Try.func52, Try.ntmps52
  go_wp2_with (go_at_call 57; refine (cNaN_any _ _).mono ?_; rintro e w1 ⟨rfl, rfl⟩)
  go_ret
  exact ⟨by rw [← hd]; rfl, rfl⟩
def rising (l : List Nat) : Prop := ∀ (i j a b : Nat), i < j → l[i]? = some a → l[j]? = some b → a < b
/-- Where a number stands, or would stand. -/
structure At (l : List Nat) (x p : Nat) : Prop where
  le : p ≤ l.length
  low : ∀ m y, m < p → l[m]? = some y → y < x
  high : ∀ m y, p ≤ m → l[m]? = some y → x ≤ y
theorem bin32_any (v : Value) (l : List Nat) (hll : l.length ≤ 100000) (x : Nat) (w : World) (hv : SlN w v l) (hr : rising l) :
    Calls Try.prog 42 #[v, .int .u32 x] w fun e w' => ∃ p, e = .returned (.tuple #[.int .i64 (p : Nat), .bool (decide (l[p]? = some x))]) ∧ At l x p ∧ w = w' := by
  have HR := Lib.hid hr
  obtain ⟨a, b, o, c, rfl, ha, hx⟩ := hv
  have HX := Lib.hid hx
  have HA := Lib.hid ha
  clear ha hx hr
  go_enter Try.func42, Try.ntmps42
  go_wp2
  go_loopg [7, 8] l.length (fun n i j wr => ∃ p q : Nat, p ≤ q ∧ q ≤ l.length ∧ n = q - p ∧ i = .int .i64 p ∧ j = .int .i64 q ∧ Hid (∀ m y, m < p → l[m]? = some y → y < x) ∧ Hid (∀ m y, q ≤ m → l[m]? = some y → x ≤ y) ∧ w = wr)
  case atStart => exact ⟨0, l.length, Nat.zero_le _, Nat.le_refl _, rfl, rfl, rfl, fun m y h => absurd h (Nat.not_lt_zero m), fun m y h hx => absurd (List.getElem?_eq_some_iff.1 hx).1 (Nat.not_lt.2 h), rfl⟩
  case round =>
    obtain ⟨p, q, hpq, hql, rfl, rfl, rfl, HLO, HHI, rfl⟩ := hrel
    by_cases hlt : p < q
    · obtain ⟨h, hh⟩ : ∃ h : Nat, h = (p + q) / 2 := ⟨_, rfl⟩
      obtain ⟨y, hy⟩ := has_of (l := l) (k := h) (by omega)
      have d0 := HX.out h y hy
      obtain rfl : a = some ⟨b, o, none⟩ := by
        rcases HA.out with h' | h'
        · rw [h'] at hql; have : q ≤ 0 := hql; omega
        · exact h'
      have HY := Lib.hid hy
      have hhE : ((p : Int) + q) / 2 = (h : Int) := by omega
      have hb1 : p ≤ h := by omega
      have hb2 : h < q := by omega
      have hb3 : h < l.length := by omega
      have hb4 : (h : Int) < l.length := by omega
      have HL := Lib.hid (cLess_any y x w)
      clear hy hh
      go_upto_region 5 with fail
      clear hhE
      by_cases hyx : y < x
      · rw [decide_eq_true hyx] at HL
        have HYX := Lib.hid hyx
        clear hyx
        go_wp2_with (go_at_call 52; refine HL.out.mono ?_; rintro e w4 ⟨rfl, rfl⟩)
        go_roundg (q - (h + 1))
        case measure => omega
        case rel =>
          refine ⟨h + 1, q, by omega, by omega, rfl, by go_num, rfl, fun m z hm hz => ?_, HHI, rfl⟩
          by_cases hmh : m = h
          · subst hmh
            rw [HY.out] at hz
            cases hz
            exact HYX.out
          · exact Nat.lt_trans (HR.out m h z y (by omega) hz HY.out) HYX.out
      · rw [decide_eq_false hyx] at HL
        have HYX := Lib.hid hyx
        clear hyx
        go_wp2_with (go_at_call 52; refine HL.out.mono ?_; rintro e w4 ⟨rfl, rfl⟩)
        go_roundg (h - p)
        case measure => omega
        case rel =>
          refine ⟨p, h, by omega, by omega, rfl, rfl, rfl, HLO, fun m z hm hz => ?_, rfl⟩
          have hn := HYX.out
          by_cases hmh : m = h
          · subst hmh
            rw [HY.out] at hz
            cases hz
            omega
          · have := HR.out h m y z (by omega) HY.out hz
            omega
    · obtain rfl : p = q := by omega
      have HAT : Hid (At l x p) := ⟨hql, HLO.out, HHI.out⟩
      by_cases hn : p < l.length
      · obtain ⟨y, hy⟩ := has_of hn
        have d0 := HX.out p y hy
        obtain rfl : a = some ⟨b, o, none⟩ := by
          rcases HA.out with h' | h'
          · rw [h'] at hn; cases hn
          · exact h'
        have hn' : (p : Int) < l.length := by omega
        have HN := Lib.hid (cNaN_any x w)
        by_cases hyx : y = x
        · subst hyx
          have HD : Hid (decide (l[p]? = some y) = true) := decide_eq_true hy
          clear hy
          go_wp2
          go_ret2
          exact ⟨p, by rw [HD.out]; rfl, HAT.out, rfl⟩
        · have HD : Hid (decide (l[p]? = some x) = false) := decide_eq_false (by rw [hy]; intro h; cases h; exact hyx rfl)
          have hne : ¬ (y : Int) = (x : Int) := by omega
          have hbe : ((y : Int) == (x : Int)) = false := by rw [beq_eq_false_iff_ne]; exact hne
          have HBE := Lib.hid hbe
          clear hy hyx
          go_wp2
          go_ret2
          refine ⟨p, ?_, HAT.out, rfl⟩
          rw [HD.out]
          first | rfl | (show Ending.returned (.tuple #[.int .i64 p, .bool ((y : Int) == (x : Int))]) = _; rw [HBE.out])
      · have HD : Hid (decide (l[p]? = some x) = false) := decide_eq_false (by rw [List.getElem?_eq_none (by omega)]; intro h; cases h)
        have hn' : ¬ (p : Int) < l.length := by omega
        go_wp2
        go_ret2
        exact ⟨p, by rw [HD.out]; rfl, HAT.out, rfl⟩
end Go.Proofs.Ytdkkcogjkeonkaa
