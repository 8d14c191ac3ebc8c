/- Fits, both; TopicMatches. -/
import Derived.Test.YtkidilojgjligaaTpLaw1
set_option maxRecDepth 100000
set_option maxHeartbeats 4000000
set_option linter.unusedVariables false
namespace Go.Proofs.Ytkidilojgjligaa
open Go.RowKit
open Tp
attribute [local go_sem] Oper.semAt_some
theorem rMatch_any (p k : Txt) (hp : p.length ≤ 100000) (hk : k.length ≤ 100000) (w : World) :
    Calls Try.prog 21 #[.string (str p), .string (str k)] w fun e w' => e = .returned (.bool (mt (words p) (words k))) ∧ RowKit.Below w.heap.size w w' := by
  have hlp : (words p).length ≤ 100001 := by have := words_len p; omega
  have hlk : (words k).length ≤ 100001 := by have := words_len k; omega
  have H1 := Lib.hid (rWords_any p hp w)
  have H2 := Lib.hid (fun W => rWords_any k hk W)
  revert hlp hlk H1 H2
  generalize words p = P
  generalize words k = K
  intro hlp hlk H1 H2
  go_enter Try.func21, Try.ntmps21
  go_wp2_with (first
    | (go_at_call 34; (with_reducible refine (rmatch_any P K _ _ _ hlp hlk HP2.out HK2.out).mono ?_); rintro e w3 ⟨rfl, q3, rfl⟩)
    | (go_at_call 16; (with_reducible refine (H2.out w1).mono ?_); rintro e w2 ⟨v2, rfl, hr2, hb2⟩; have HP2 := Lib.hid (HR1.out.slc.below rfl hb2); have HK2 := Lib.hid hr2.slc; have HB2 := Lib.hid (on HB1.out (Nat.le_refl _) hb2); obtain ⟨a2, c2, rfl⟩ := hr2.slice; clear hr2 hb2)
    | (go_at_call 16; (with_reducible refine H1.out.mono ?_); rintro e w1 ⟨v1, rfl, hr1, hb1⟩; have HR1 := Lib.hid hr1; have HB1 := Lib.hid hb1; obtain ⟨a1, c1, rfl⟩ := hr1.slice; clear hr1 hb1))
  go_ret
  exact ⟨rfl, below_drewT HB2.out q3⟩
/-- Does a binding's pattern, of a kind? -/
def fitsB (k : Int) (p q : Txt) : Bool := (decide (k = 1) && decide (p = q)) || decide (k = 2) || (decide (k = 3) && mt (words p) (words q))
theorem fits1 (p q : Txt) : fitsB 1 p q = decide (p = q) := by simp [fitsB]
theorem fits2 (p q : Txt) : fitsB 2 p q = true := by simp [fitsB]
theorem fits3 (p q : Txt) : fitsB 3 p q = mt (words p) (words q) := by simp [fitsB]
theorem fits0 {k : Int} (p q : Txt) (h1 : k ≠ 1) (h2 : k ≠ 2) (h3 : k ≠ 3) : fitsB k p q = false := by simp [fitsB, h1, h2, h3]
theorem eq_beq (p q : Txt) : ((str p).toList == (str q).toList) = decide (p = q) := by
  rw [strL, strL]
  by_cases h : p = q <;> simp [h]
set_option maxHeartbeats 1000000 in
theorem fits_any (kd : Int) (p q : Txt) (hp : p.length ≤ 100000) (hk : q.length ≤ 100000) (m : Int) (w : World) (hm : w.cell? ⟨0, 0, none⟩ = some (.int .i64 m)) :
    Calls Try.prog 22 #[.int .i64 kd, .string (str p), .string (str q)] w fun e w' => e = .returned (.bool (fitsB kd p q)) ∧ RowKit.Below w.heap.size w w' := by
  have HE := Lib.hid (match_any p q hp hk m w hm)
  clear hm
  by_cases h1 : kd = 1
  · subst h1
    rw [fits1, ← eq_beq]
    go_enter Try.func22, Try.ntmps22
    go_wp2
    go_ret
    exact ⟨rfl, Below.refl _ _⟩
  · by_cases h2 : kd = 2
    · subst h2
      rw [fits2]
      clear h1
      go_enter Try.func22, Try.ntmps22
      go_wp2
      go_ret
      exact ⟨rfl, Below.refl _ _⟩
    · by_cases h3 : kd = 3
      · subst h3
        rw [fits3]
        clear h1 h2
        go_enter Try.func22, Try.ntmps22
        go_wp2_with (go_at_call 20; (with_reducible refine HE.out.mono ?_); rintro e w1 ⟨rfl, hb1⟩; have HB1 := Lib.hid hb1; clear hb1)
        go_ret
        exact ⟨rfl, HB1.out⟩
      · rw [fits0 p q h1 h2 h3]
        go_enter Try.func22, Try.ntmps22
        go_wp2
        go_ret
        exact ⟨rfl, Below.refl _ _⟩
set_option maxHeartbeats 1000000 in
theorem rFits_any (kd : Int) (p q : Txt) (hp : p.length ≤ 100000) (hk : q.length ≤ 100000) (w : World) :
    Calls Try.prog 23 #[.int .i64 kd, .string (str p), .string (str q)] w fun e w' => e = .returned (.bool (fitsB kd p q)) ∧ RowKit.Below w.heap.size w w' := by
  have HE := Lib.hid (rMatch_any p q hp hk w)
  by_cases h1 : kd = 1
  · subst h1
    rw [fits1, ← eq_beq]
    cases hb : ((str p).toList == (str q).toList)
    all_goals
      go_enter Try.func23, Try.ntmps23
      go_wp2
      go_ret
      exact ⟨rfl, Below.refl _ _⟩
  · by_cases h2 : kd = 2
    · subst h2
      rw [fits2]
      clear h1
      go_enter Try.func23, Try.ntmps23
      go_wp2
      go_ret
      exact ⟨rfl, Below.refl _ _⟩
    · by_cases h3 : kd = 3
      · subst h3
        rw [fits3]
        clear h1 h2
        go_enter Try.func23, Try.ntmps23
        go_wp2_with (go_at_call 21; (with_reducible refine HE.out.mono ?_); rintro e w1 ⟨rfl, hb1⟩; have HB1 := Lib.hid hb1; clear hb1)
        go_ret
        exact ⟨rfl, HB1.out⟩
      · rw [fits0 p q h1 h2 h3]
        go_enter Try.func23, Try.ntmps23
        go_wp2
        go_ret
        first | exact ⟨rfl, Below.refl _ _⟩ | exact ⟨ret_bool (by simp [h2]), Below.refl _ _⟩
theorem count_any (s : Txt) (w : World) : Calls Try.prog 19 #[.string (str s), .string ⟨#[46]⟩] w fun e w' => (∃ n : Nat, e = .returned (.int .i64 n)) ∧ w = w' :=
  (Try.strings_Count_one (str s) 46 w).mono fun _ _ h => ⟨⟨_, h.1⟩, h.2.symm⟩
set_option maxHeartbeats 8000000 in
set_option maxRecDepth 100000 in
theorem matches_in (kd : Int) (p k : Txt) (m : Int) (W : World) (hm : W.cell? ⟨0, 0, none⟩ = some (.int .i64 m)) :
    Calls Try.prog 4 #[.int .i64 kd, .string (str p), .string (str k)] W fun e W' => e = .returned (.bool true) ∧ RowKit.Below W.heap.size W W' := by
  have HM := Lib.hid hm
  have hz : (str p).size = p.length := rfl
  have hz2 : (str k).size = k.length := rfl
  clear hm
  by_cases hbig : 200 < p.length ∨ 200 < k.length
  · have hmx : (200 : Int) < max (p.length : Int) (k.length : Int) := by omega
    clear hbig
    go_enter Try.func4, Try.ntmps4
    go_wp2_with (go_at_call 6; (with_reducible refine (awake_any m _ HM.out).mono ?_); rintro e w1 ⟨rfl, hb1⟩; have HB1 := Lib.hid hb1; clear hb1)
    go_ret
    exact ⟨rfl, HB1.out⟩
  · have hp : p.length ≤ 100000 := by omega
    have hk : k.length ≤ 100000 := by omega
    have hmx : max (p.length : Int) (k.length : Int) ≤ 200 := by omega
    clear hbig
    go_enter Try.func4, Try.ntmps4
    go_wp2_with (first
      | (go_at_call 6; (with_reducible refine (awake_any m _ HM.out).mono ?_); rintro e w1 ⟨rfl, hb1⟩; have HB1 := Lib.hid hb1; clear hb1)
      | (go_at_call 19; (with_reducible refine (count_any _ _).mono ?_); rintro e w2 ⟨⟨n, rfl⟩, rfl⟩)
      | (go_at_call 20; (with_reducible refine (match_any p k hp hk m _ (maxAt HM.out HB1.out)).mono ?_); rintro e w4 ⟨rfl, hb4⟩; have HB4 := Lib.hid (on HB1.out (Nat.le_refl _) hb4); clear hb4)
      | (go_at_call 21; (with_reducible refine (rMatch_any p k hp hk _).mono ?_); rintro e w5 ⟨rfl, hb5⟩; have HB5 := Lib.hid (on HB4.out (Nat.le_refl _) hb5); clear hb5)
      | (go_at_call 22; (with_reducible refine (fits_any kd p k hp hk m _ (maxAt HM.out HB5.out)).mono ?_); rintro e w6 ⟨rfl, hb6⟩; have HB6 := Lib.hid (on HB5.out (Nat.le_refl _) hb6); clear hb6)
      | (go_at_call 23; (with_reducible refine (rFits_any kd p k hp hk _).mono ?_); rintro e w7 ⟨rfl, hb7⟩; have HB7 := Lib.hid (on HB6.out (Nat.le_refl _) hb7); clear hb7))
    all_goals
      go_ret
      first | exact ⟨rfl, HB7.out⟩ | exact ⟨rfl, HB1.out⟩
theorem matches20_walk (kd : Int) (a b : ByteArray) (m : Int) (W : World) (hm : W.cell? ⟨0, 0, none⟩ = some (.int .i64 m)) :
    Calls Try.prog 4 #[.int .i64 kd, .string a, .string b] W fun e W' => e = .returned (.bool true) ∧ RowKit.Below W.heap.size W W' := matches_in kd a.data.toList b.data.toList m W hm
end Go.Proofs.Ytkidilojgjligaa
