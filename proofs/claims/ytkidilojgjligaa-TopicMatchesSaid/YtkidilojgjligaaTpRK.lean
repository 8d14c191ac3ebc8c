/- The document's Key, Pattern; Right, both. -/
import Derived.Test.YtkidilojgjligaaTpRW
import Derived.Test.YtkidilojgjligaaTpEach
set_option maxRecDepth 100000
set_option maxHeartbeats 4000000
set_option linter.unusedVariables false
namespace Go.Proofs.Ytkidilojgjligaa
open Go.RowKit
open Tp
theorem allL_snoc {p : Txt → Bool} {s : List Txt} {k : Nat} {c : Txt} (h : s[k]? = some c) : (s.take (k + 1)).all p = ((s.take k).all p && p c) := by
  rw [take_snoc h, List.all_append]; simp
theorem allL_bad {p : Txt → Bool} {L : List Txt} {k : Nat} {x : Txt} (h : L[k]? = some x) (hp : p x = false) : (decide (L.length ≤ 8) && L.all p) = false := by
  have : L.all p = false := by
    rw [List.all_eq_false]
    exact ⟨x, List.mem_of_getElem? h, by simp [hp]⟩
  rw [this, Bool.and_false]
theorem allL_end {p : Txt → Bool} {L : List Txt} (h : (L.take L.length).all p = true) : (decide (L.length ≤ 8) && L.all p) = decide (L.length ≤ 8) := by
  rw [List.take_length] at h
  rw [h, Bool.and_true]
theorem le8 (n : Nat) : decide ((n : Int) ≤ 8) = decide (n ≤ 8) := by
  by_cases h : n ≤ 8
  · rw [decide_eq_true h, decide_eq_true (by omega)]
  · rw [decide_eq_false h, decide_eq_false (by omega)]
set_option maxHeartbeats 4000000 in
theorem rKey_any (s : Txt) (hs : s.length ≤ 100000) (w : World) :
    Calls Try.prog 10 #[.string (str s)] w fun e w' => e = .returned (.bool (keyB s)) ∧ RowKit.Below w.heap.size w w' := by
  have HK : Hid (keyB s = (decide ((words s).length ≤ 8) && (words s).all nameB)) := rfl
  have hlen := words_len s
  have HS := Lib.hid (words_sum s)
  have HC := Lib.hid (rWords_any s hs w)
  revert HK hlen HS HC
  generalize words s = L
  intro HK hlen HS HC
  go_enter Try.func10, Try.ntmps10
  go_wp2_with (go_at_call 16; (with_reducible refine HC.out.mono ?_); rintro e w1 ⟨v1, rfl, hr1, hb1⟩; have HB1 := Lib.hid hb1; have HSL := Lib.hid hr1.sl; obtain ⟨a1, c1, rfl⟩ := hr1.slice; clear hr1 hb1)
  obtain ⟨a, b, o, c, he, ha, hx⟩ := HSL.out
  cases he
  have HX := Lib.hid hx
  have HA := Lib.hid ha
  clear hx ha HSL
  go_loopg [10] L.length (fun g i wr => ∃ k q : Nat, k ≤ L.length ∧ g = L.length - k ∧ i = .int .i64 k ∧ Hid ((L.take k).all nameB = true) ∧ wr = w1.drewN q)
  case atStart => exact ⟨0, 0, Nat.zero_le _, rfl, rfl, rfl, rfl⟩
  case round =>
    obtain ⟨k, q, hk, rfl, rfl, HT, rfl⟩ := hrel
    by_cases hlt : k < L.length
    · obtain ⟨x, hx⟩ := some_atP hlt
      obtain rfl : a1 = some ⟨b, o, none⟩ := HA.out.resolve_left (by rintro rfl; simp at hlt)
      have hc : w1.cell? ⟨b, o + k, none⟩ = some (eS x) := HX.out k x hx
      have hxl : x.length ≤ 100000 := Nat.le_trans (HS.out x (List.mem_of_getElem? hx)) hs
      by_cases hp : nameB x = true
      · have HS2 : Hid ((L.take (k + 1)).all nameB = true) := by show _ = _; rw [allL_snoc hx, HT.out, hp]; rfl
        have HP := Lib.hid hp
        clear hp hx
        go_wp2_with (go_at_call 8; refine (rName_any x hxl _).mono ?_; rintro e w2 ⟨rfl, q2, rfl⟩; rw [HP.out])
        go_roundg (L.length - (k + 1))
        case rel => exact ⟨k + 1, _, by omega, rfl, by go_num, HS2, rfl⟩
        case measure => omega
      · have hp' : nameB x = false := by simpa using hp
        have HN := Lib.hid (allL_bad hx hp')
        have HP := Lib.hid hp'
        clear hp hp' hx
        go_wp2_with (go_at_call 8; refine (rName_any x hxl _).mono ?_; rintro e w2 ⟨rfl, q2, rfl⟩; rw [HP.out])
        go_ret
        exact ⟨ret_bool (by rw [HK.out, HN.out]), below_drewT HB1.out _⟩
    · obtain rfl : k = L.length := by omega
      have HN := Lib.hid (allL_end HT.out)
      go_wp2
      go_ret
      exact ⟨ret_bool (by rw [HK.out, HN.out, le8]), below_drewT HB1.out _⟩
theorem word_cases (x : Txt) : (x = STAR ∧ wordB x = true) ∨ (x = HASH ∧ wordB x = true) ∨ (x ≠ STAR ∧ x ≠ HASH ∧ nameB x = true ∧ wordB x = true) ∨ (x ≠ STAR ∧ x ≠ HASH ∧ nameB x = false ∧ wordB x = false) := by
  by_cases h1 : x = STAR
  · exact .inl ⟨h1, by simp [wordB, h1]⟩
  · by_cases h2 : x = HASH
    · exact .inr (.inl ⟨h2, by simp [wordB, h2]⟩)
    · cases h : nameB x with
      | true => exact .inr (.inr (.inl ⟨h1, h2, rfl, by simp [wordB, h]⟩))
      | false => exact .inr (.inr (.inr ⟨h1, h2, rfl, by simp [wordB, h, h1, h2]⟩))
set_option maxHeartbeats 4000000 in
theorem rPat_any (s : Txt) (hs : s.length ≤ 100000) (w : World) :
    Calls Try.prog 12 #[.string (str s)] w fun e w' => e = .returned (.bool (patB s)) ∧ RowKit.Below w.heap.size w w' := by
  have HK : Hid (patB s = (decide ((words s).length ≤ 8) && (words s).all wordB)) := rfl
  have hlen := words_len s
  have HS := Lib.hid (words_sum s)
  have HC := Lib.hid (rWords_any s hs w)
  revert HK hlen HS HC
  generalize words s = L
  intro HK hlen HS HC
  go_enter Try.func12, Try.ntmps12
  go_wp2_with (go_at_call 16; (with_reducible refine HC.out.mono ?_); rintro e w1 ⟨v1, rfl, hr1, hb1⟩; have HB1 := Lib.hid hb1; have HSL := Lib.hid hr1.sl; obtain ⟨a1, c1, rfl⟩ := hr1.slice; clear hr1 hb1)
  obtain ⟨a, b, o, c, he, ha, hx⟩ := HSL.out
  cases he
  have HX := Lib.hid hx
  have HA := Lib.hid ha
  clear hx ha HSL
  go_loopg [10] L.length (fun g i wr => ∃ k q : Nat, k ≤ L.length ∧ g = L.length - k ∧ i = .int .i64 k ∧ Hid ((L.take k).all wordB = true) ∧ wr = w1.drewN q)
  case atStart => exact ⟨0, 0, Nat.zero_le _, rfl, rfl, rfl, rfl⟩
  case round =>
    obtain ⟨k, q, hk, rfl, rfl, HT, rfl⟩ := hrel
    by_cases hlt : k < L.length
    · obtain ⟨x, hx⟩ := some_atP hlt
      obtain rfl : a1 = some ⟨b, o, none⟩ := HA.out.resolve_left (by rintro rfl; simp at hlt)
      have hc : w1.cell? ⟨b, o + k, none⟩ = some (eS x) := HX.out k x hx
      have hxl : x.length ≤ 100000 := Nat.le_trans (HS.out x (List.mem_of_getElem? hx)) hs
      rcases word_cases x with ⟨hw, hp⟩ | ⟨hw, hp⟩ | ⟨hw1, hw2, hn, hp⟩ | ⟨hw1, hw2, hn, hp⟩
      · have HS2 : Hid ((L.take (k + 1)).all wordB = true) := by show _ = _; rw [allL_snoc hx, HT.out, hp]; rfl
        have h1 : (str x).toList = [42] := by rw [strL, hw]
        clear hp hx hw
        go_wp2_with fail
        go_roundg (L.length - (k + 1))
        case rel => exact ⟨k + 1, _, by omega, rfl, by go_num, HS2, rfl⟩
        case measure => omega
      · have HS2 : Hid ((L.take (k + 1)).all wordB = true) := by show _ = _; rw [allL_snoc hx, HT.out, hp]; rfl
        have h1 : (str x).toList = [35] := by rw [strL, hw]
        clear hp hx hw
        go_wp2_with fail
        go_roundg (L.length - (k + 1))
        case rel => exact ⟨k + 1, _, by omega, rfl, by go_num, HS2, rfl⟩
        case measure => omega
      · have HS2 : Hid ((L.take (k + 1)).all wordB = true) := by show _ = _; rw [allL_snoc hx, HT.out, hp]; rfl
        have h1 : ((str x).toList == [42]) = false := by rw [strL, beq_eq_false_iff_ne]; exact hw1
        have h2 : ((str x).toList == [35]) = false := by rw [strL, beq_eq_false_iff_ne]; exact hw2
        have HP := Lib.hid hn
        clear hp hx hw1 hw2 hn
        go_wp2_with (go_at_call 8; refine (rName_any x hxl _).mono ?_; rintro e w2 ⟨rfl, q2, rfl⟩; rw [HP.out])
        go_roundg (L.length - (k + 1))
        case rel => exact ⟨k + 1, _, by omega, rfl, by go_num, HS2, rfl⟩
        case measure => omega
      · have h1 : ((str x).toList == [42]) = false := by rw [strL, beq_eq_false_iff_ne]; exact hw1
        have h2 : ((str x).toList == [35]) = false := by rw [strL, beq_eq_false_iff_ne]; exact hw2
        have HN := Lib.hid (allL_bad hx hp)
        have HP := Lib.hid hn
        clear hp hx hw1 hw2 hn
        go_wp2_with (go_at_call 8; refine (rName_any x hxl _).mono ?_; rintro e w2 ⟨rfl, q2, rfl⟩; rw [HP.out])
        go_ret
        exact ⟨ret_bool (by rw [HK.out, HN.out]), below_drewT HB1.out _⟩
    · obtain rfl : k = L.length := by omega
      have HN := Lib.hid (allL_end HT.out)
      go_wp2
      go_ret
      exact ⟨ret_bool (by rw [HK.out, HN.out, le8]), below_drewT HB1.out _⟩
/-- May a binding have a pattern? -/
def rightB (k : Int) (s : Txt) : Bool := (decide (k = 1) && keyB s) || (decide (k = 2) && decide (s = [])) || (decide (k = 3) && patB s)
theorem right1 (s : Txt) : rightB 1 s = keyB s := by simp [rightB]
theorem right2 (s : Txt) : rightB 2 s = decide (s = []) := by simp [rightB]
theorem right3 (s : Txt) : rightB 3 s = patB s := by simp [rightB]
theorem right0 {k : Int} (s : Txt) (h1 : k ≠ 1) (h2 : k ≠ 2) (h3 : k ≠ 3) : rightB k s = false := by simp [rightB, h1, h2, h3]
theorem empty_eq (s : Txt) : (str s).toList.isEmpty = decide (s = []) := by rw [strL]; cases s <;> simp
set_option maxHeartbeats 1000000 in
theorem right_any (k : Int) (s : Txt) (hs : s.length ≤ 100000) (m : Int) (w : World) (hm : w.cell? ⟨0, 0, none⟩ = some (.int .i64 m)) :
    Calls Try.prog 17 #[.int .i64 k, .string (str s)] w fun e w' => e = .returned (.bool (rightB k s)) ∧ RowKit.Below w.heap.size w w' := by
  have HE := Lib.hid (key_any s hs m w hm)
  have HP := Lib.hid (pat_any s hs m w hm)
  clear hm
  by_cases h1 : k = 1
  · subst h1
    rw [right1]
    go_enter Try.func17, Try.ntmps17
    go_wp2_with (go_at_call 9; (with_reducible refine HE.out.mono ?_); rintro e w1 ⟨rfl, hb1⟩; have HB1 := Lib.hid hb1; clear hb1)
    go_ret
    exact ⟨rfl, HB1.out⟩
  · by_cases h2 : k = 2
    · subst h2
      rw [right2, ← empty_eq]
      clear h1
      go_enter Try.func17, Try.ntmps17
      go_wp2
      go_ret
      exact ⟨rfl, Below.refl _ _⟩
    · by_cases h3 : k = 3
      · subst h3
        rw [right3]
        clear h1 h2
        go_enter Try.func17, Try.ntmps17
        go_wp2_with (go_at_call 11; (with_reducible refine HP.out.mono ?_); rintro e w1 ⟨rfl, hb1⟩; have HB1 := Lib.hid hb1; clear hb1)
        go_ret
        exact ⟨rfl, HB1.out⟩
      · rw [right0 s h1 h2 h3]
        go_enter Try.func17, Try.ntmps17
        go_wp2
        go_ret
        exact ⟨rfl, Below.refl _ _⟩
set_option maxHeartbeats 1000000 in
theorem rRight_any (k : Int) (s : Txt) (hs : s.length ≤ 100000) (w : World) :
    Calls Try.prog 18 #[.int .i64 k, .string (str s)] w fun e w' => e = .returned (.bool (rightB k s)) ∧ RowKit.Below w.heap.size w w' := by
  have HE := Lib.hid (rKey_any s hs w)
  have HP := Lib.hid (rPat_any s hs w)
  by_cases h1 : k = 1
  · subst h1
    rw [right1]
    cases hb : keyB s
    all_goals
      have HB := Lib.hid hb
      clear hb
      go_enter Try.func18, Try.ntmps18
      go_wp2_with (go_at_call 10; (with_reducible refine HE.out.mono ?_); rintro e w1 ⟨rfl, hb1⟩; have HB1 := Lib.hid hb1; clear hb1; rw [HB.out])
      go_ret
      exact ⟨rfl, HB1.out⟩
  · by_cases h2 : k = 2
    · subst h2
      rw [right2, ← empty_eq]
      clear h1
      cases hb : (str s).toList.isEmpty
      all_goals
        go_enter Try.func18, Try.ntmps18
        go_wp2
        go_ret
        exact ⟨rfl, Below.refl _ _⟩
    · by_cases h3 : k = 3
      · subst h3
        rw [right3]
        clear h1 h2
        go_enter Try.func18, Try.ntmps18
        go_wp2_with (go_at_call 12; (with_reducible refine HP.out.mono ?_); rintro e w1 ⟨rfl, hb1⟩; have HB1 := Lib.hid hb1; clear hb1)
        go_ret
        exact ⟨rfl, HB1.out⟩
      · rw [right0 s h1 h2 h3]
        go_enter Try.func18, Try.ntmps18
        go_wp2
        go_ret
        exact ⟨rfl, Below.refl _ _⟩
end Go.Proofs.Ytkidilojgjligaa
