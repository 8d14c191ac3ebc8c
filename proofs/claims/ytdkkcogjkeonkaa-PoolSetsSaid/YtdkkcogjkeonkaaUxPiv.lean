/- The library's medians, and its choice of a pivot. -/
import Derived.Test.YtdkkcogjkeonkaaUxOr2
set_option maxRecDepth 100000
set_option maxHeartbeats 4000000
set_option linter.unusedVariables false
namespace Go.Proofs.Ytdkkcogjkeonkaa
open Go.RowKit
open Go.Sort (swp PermIn SortedIn)
variable {sz cap B g : Nat} {w W W' : World} {d : Array Nat} {sb s : Nat}
theorem med32_any (h : PR sz cap B g w d W) (hc : CB sb s W) (hg : g < sb) (hs : s ≤ 900) (hsz : sz ≤ 1000) (a b c : Nat) (ha : a < sz) (hb : b < sz) (hcc : c < sz) :
    Calls Try.prog 64 #[.slice (some ⟨g, 0, none⟩) sz cap, .int .i64 a, .int .i64 b, .int .i64 c, .pointer (some ⟨sb, 0, none⟩)] W fun e W' => ∃ p s' : Nat, e = .returned (.int .i64 p) ∧ (p = a ∨ p = b ∨ p = c) ∧ s' ≤ s + 3 ∧ CB sb s' W' ∧ PR sz cap B g w d W' ∧ Below sb W W' := by
  have HP := Lib.hid h
  have HC := Lib.hid hc
  clear h hc
  go_enter Try.func64, Try.ntmps64
  go_upto_region 2 with (go_at_call 66; refine (ord2_any HP.out HC.out hg (by omega) hsz _ _ ha hb).mono ?_; rintro e w1 ⟨p1, q1, s1, rfl, h1, hs1, hc1, hb1⟩; have HP1 := Lib.hid (HP.out.belowG hg hb1); have HC1 := Lib.hid hc1; have HB1 := Lib.hid hb1; have HM1 := Lib.hid h1; have hp1 : p1 < sz := (by rcases h1 with h1 | h1 <;> omega); have hq1 : q1 < sz := (by rcases h1 with h1 | h1 <;> omega); clear h1 hc1 hb1)
  go_upto_region 3 with (go_at_call 66; refine (ord2_any HP1.out HC1.out hg (by omega) hsz _ _ hq1 hcc).mono ?_; rintro e w2 ⟨p2, q2, s2, rfl, h2, hs2, hc2, hb2⟩; have HP2 := Lib.hid (HP1.out.belowG hg hb2); have HC2 := Lib.hid hc2; have HB2 := Lib.hid (HB1.out.trans hb2); have HM2 := Lib.hid h2; have hp2 : p2 < sz := (by rcases h2 with h2 | h2 <;> omega); have hq2 : q2 < sz := (by rcases h2 with h2 | h2 <;> omega); clear h2 hc2 hb2)
  go_wp2_with (go_at_call 66; refine (ord2_any HP2.out HC2.out hg (by omega) hsz _ _ hp1 hp2).mono ?_; rintro e w3 ⟨p3, q3, s3, rfl, h3, hs3, hc3, hb3⟩; have HP3 := Lib.hid (HP2.out.belowG hg hb3); have HC3 := Lib.hid hc3; have HB3 := Lib.hid (HB2.out.trans hb3); have HM3 := Lib.hid h3; clear h3 hc3 hb3)
  go_ret
  have h1 := HM1.out
  have h2 := HM2.out
  have h3 := HM3.out
  exact ⟨q3, s3, rfl, by omega, by omega, HC3.out, HP3.out, HB3.out⟩
theorem medA32_any (h : PR sz cap B g w d W) (hc : CB sb s W) (hg : g < sb) (hs : s ≤ 900) (hsz : sz ≤ 1000) (a : Nat) (ha1 : 1 ≤ a) (ha : a + 1 < sz) :
    Calls Try.prog 63 #[.slice (some ⟨g, 0, none⟩) sz cap, .int .i64 a, .pointer (some ⟨sb, 0, none⟩)] W fun e W' => ∃ p s' : Nat, e = .returned (.int .i64 p) ∧ (a - 1 ≤ p ∧ p ≤ a + 1) ∧ s' ≤ s + 3 ∧ CB sb s' W' ∧ PR sz cap B g w d W' ∧ Below sb W W' := by
  obtain ⟨a', rfl⟩ : ∃ a', a = a' + 1 := ⟨a - 1, by omega⟩
  have HM := Lib.hid (med32_any h hc hg hs hsz a' (a' + 1) (a' + 2) (by omega) (by omega) ha)
  clear h hc
  go_enter Try.func63, Try.ntmps63
  go_wp2_with (go_at_call 64; refine (show _ from HM.out).mono ?_; rintro e w1 ⟨p, s', rfl, hp, hs', hc1, hp1, hb1⟩; have HC1 := Lib.hid hc1; have HP1 := Lib.hid hp1; have HB1 := Lib.hid hb1; clear hc1 hp1 hb1)
  go_ret
  exact ⟨p, s', rfl, by omega, hs', HC1.out, HP1.out, HB1.out⟩
set_option maxHeartbeats 400000 in
theorem pivot32_any (h : PR sz cap B g w d W) (hsz : sz ≤ 1000) (a b : Nat) (hab : a + 12 < b) (hb : b ≤ sz) :
    Calls Try.prog 49 #[.slice (some ⟨g, 0, none⟩) sz cap, .int .i64 a, .int .i64 b] W fun e W' => ∃ p hn : Nat, e = .returned (.tuple #[.int .i64 p, .int .i64 hn]) ∧ a < p ∧ p + 1 < b ∧ hn ≤ 2 ∧ PR sz cap B g w d W' := by
  have HG : Hid (g < W.heap.size) := h.lt
  have HP := Lib.hid (h.alloc (.cells #[.int .i64 0] 3))
  have HC : Hid (CB W.heap.size 0 (W.alloc (.cells #[.int .i64 0] 3))) := heap_alloc_new W _
  obtain ⟨L, rfl⟩ : ∃ L, b = a + L := ⟨b - a, by omega⟩
  obtain ⟨Q, hQ⟩ : ∃ Q, Q = L / 4 := ⟨_, rfl⟩
  obtain ⟨i0, hi⟩ : ∃ i0, i0 = a + Q := ⟨_, rfl⟩
  obtain ⟨j0, hj⟩ : ∃ j0, j0 = a + Q * 2 := ⟨_, rfl⟩
  obtain ⟨k0, hk⟩ : ∃ k0, k0 = a + Q * 3 := ⟨_, rfl⟩
  have e1 : (a : Int) + (L : Int) - (a : Int) = (L : Int) := by omega
  have e2 : (L : Int) / 4 = (Q : Int) := by omega
  have e3 : (a : Int) + (Q : Int) = (i0 : Int) := by omega
  have e4 : (a : Int) + (Q : Int) * 2 = (j0 : Int) := by omega
  have e5 : (a : Int) + (Q : Int) * 3 = (k0 : Int) := by omega
  have E1 := Lib.hid e1
  have E2 := Lib.hid e2
  have E3 := Lib.hid e3
  have E4 := Lib.hid e4
  have E5 := Lib.hid e5
  have HI : Hid (Q = L / 4 ∧ i0 = a + Q ∧ j0 = a + Q * 2 ∧ k0 = a + Q * 3) := ⟨hQ, hi, hj, hk⟩
  clear h e1 e2 e3 e4 e5 hQ hi hj hk
  by_cases h50 : 50 ≤ L
  · have h50z : (50 : Int) ≤ (L : Int) := by omega
    go_enter Try.func49, Try.ntmps49
    go_upto_region 8 with fail
    simp only [E1.out, E2.out, E3.out, E4.out, E5.out]
    go_upto_region 9 with (go_at_call 63; refine (medA32_any HP.out HC.out HG.out (by omega) hsz i0 (by have := HI.out; omega) (by have := HI.out; omega)).mono ?_; rintro e w1 ⟨p1, s1, rfl, hr1, hs1, hc1, hp1, hb1⟩; have HC1 := Lib.hid hc1; have HP1 := Lib.hid hp1; clear hc1 hp1 hb1)
    go_upto_region 10 with (go_at_call 63; refine (medA32_any HP1.out HC1.out HG.out (by omega) hsz j0 (by have := HI.out; omega) (by have := HI.out; omega)).mono ?_; rintro e w2 ⟨p2, s2, rfl, hr2, hs2, hc2, hp2, hb2⟩; have HC2 := Lib.hid hc2; have HP2 := Lib.hid hp2; clear hc2 hp2 hb2)
    go_upto_region 11 with (go_at_call 63; refine (medA32_any HP2.out HC2.out HG.out (by omega) hsz k0 (by have := HI.out; omega) (by have := HI.out; omega)).mono ?_; rintro e w3 ⟨p3, s3, rfl, hr3, hs3, hc3, hp3, hb3⟩; have HC3 := Lib.hid hc3; have HP3 := Lib.hid hp3; clear hc3 hp3 hb3)
    go_upto_region 12 with (go_at_call 64; refine (med32_any HP3.out HC3.out HG.out (by omega) hsz p1 p2 p3 (by have := HI.out; omega) (by have := HI.out; omega) (by have := HI.out; omega)).mono ?_; rintro e w4 ⟨p4, s4, rfl, hr4, hs4, hc4, hp4, hb4⟩; have HP4 := Lib.hid hp4; have c4 := hc4.cell.1; clear hc4 hp4 hb4)
    have hp4a : a < p4 := by have := HI.out; omega
    have hp4b : p4 + 1 < a + L := by have := HI.out; omega
    clear hr4
    by_cases z0 : s4 = 0
    · subst z0
      go_wp2
      go_ret2
      exact ⟨p4, 1, rfl, hp4a, hp4b, by omega, HP4.out⟩
    · have z0z : ¬ (s4 : Int) = 0 := by omega
      by_cases z1 : s4 = 12
      · subst z1
        go_wp2
        go_ret2
        exact ⟨p4, 2, rfl, hp4a, hp4b, by omega, HP4.out⟩
      · have z1z : ¬ (s4 : Int) = 12 := by omega
        go_wp2
        go_ret2
        exact ⟨p4, 0, rfl, hp4a, hp4b, by omega, HP4.out⟩
  · have h50z : ¬ (50 : Int) ≤ (L : Int) := by omega
    go_enter Try.func49, Try.ntmps49
    go_upto_region 11 with fail
    simp only [E1.out, E2.out, E3.out, E4.out, E5.out]
    go_upto_region 12 with (go_at_call 64; refine (med32_any HP.out HC.out HG.out (by omega) hsz i0 j0 k0 (by have := HI.out; omega) (by have := HI.out; omega) (by have := HI.out; omega)).mono ?_; rintro e w4 ⟨p4, s4, rfl, hr4, hs4, hc4, hp4, hb4⟩; have HP4 := Lib.hid hp4; have c4 := hc4.cell.1; clear hc4 hp4 hb4)
    have hp4a : a < p4 := by have := HI.out; omega
    have hp4b : p4 + 1 < a + L := by have := HI.out; omega
    clear hr4
    by_cases z0 : s4 = 0
    · subst z0
      go_wp2
      go_ret2
      exact ⟨p4, 1, rfl, hp4a, hp4b, by omega, HP4.out⟩
    · have z0z : ¬ (s4 : Int) = 0 := by omega
      by_cases z1 : s4 = 12
      · subst z1
        go_wp2
        go_ret2
        exact ⟨p4, 2, rfl, hp4a, hp4b, by omega, HP4.out⟩
      · have z1z : ¬ (s4 : Int) = 12 := by omega
        go_wp2
        go_ret2
        exact ⟨p4, 0, rfl, hp4a, hp4b, by omega, HP4.out⟩
end Go.Proofs.Ytdkkcogjkeonkaa
