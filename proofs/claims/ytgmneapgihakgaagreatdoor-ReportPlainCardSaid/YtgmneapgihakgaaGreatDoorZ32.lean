/- Texts of one seat, merged. -/
import Derived.Test.YtgmneapgihakgaaGreatDoorZ30
import Derived.Deep.RegionHeld3
set_option maxRecDepth 100000
set_option maxHeartbeats 4000000
set_option linter.unusedVariables false
/- Texts that are put together: report's queue, message, binding, dump and pages, over letters. -/
namespace Go.Proofs.YtgmneapgihakgaaGreatDoor
open Go.RowKit
set_option maxHeartbeats 8000000 in
theorem cat_pages (a0 a1 a2 a3 a4 a5 : Option Addr) (n0 n1 n2 n3 n4 n5 k0 k1 k2 k3 k4 k5 : Nat) (pairs deep : Int) (bytes : Nat) (d0 d1 d2 d3 d4 d5 d6 d7 d8 : List UInt8) (l_d0 : d0.length ≤ 100000000) (l_d1 : d1.length ≤ 100000000) (l_d2 : d2.length ≤ 100000000) (l_d3 : d3.length ≤ 100000000) (l_d4 : d4.length ≤ 100000000) (l_d5 : d5.length ≤ 100000000) (l_d6 : d6.length ≤ 100000000) (l_d7 : d7.length ≤ 100000000) (l_d8 : d8.length ≤ 100000000) (w : World)
    (H0 : ∀ W, Below w.heap.size w W → Calls Tryz.prog 132 #[.int .i64 n0] W fun e w' => e = .returned (.string (str d0)) ∧ Below W.heap.size W w')
    (H1 : ∀ W, Below w.heap.size w W → Calls Tryz.prog 132 #[.int .i64 n1] W fun e w' => e = .returned (.string (str d1)) ∧ Below W.heap.size W w')
    (H2 : ∀ W, Below w.heap.size w W → Calls Tryz.prog 132 #[.int .i64 n2] W fun e w' => e = .returned (.string (str d2)) ∧ Below W.heap.size W w')
    (H3 : ∀ W, Below w.heap.size w W → Calls Tryz.prog 132 #[.int .i64 n3] W fun e w' => e = .returned (.string (str d3)) ∧ Below W.heap.size W w')
    (H4 : ∀ W, Below w.heap.size w W → Calls Tryz.prog 141 #[.string ⟨#[44, 32, 108, 111, 115, 116]⟩, .slice a4 n4 k4] W fun e w' => e = .returned (.string (str d4)) ∧ Below W.heap.size W w')
    (H5 : ∀ W, Below w.heap.size w W → Calls Tryz.prog 141 #[.string ⟨#[44, 32, 116, 119, 105, 99, 101]⟩, .slice a5 n5 k5] W fun e w' => e = .returned (.string (str d5)) ∧ Below W.heap.size W w')
    (H6 : ∀ W, Below w.heap.size w W → Calls Tryz.prog 132 #[.int .i64 pairs] W fun e w' => e = .returned (.string (str d6)) ∧ Below W.heap.size W w')
    (H7 : ∀ W, Below w.heap.size w W → Calls Tryz.prog 129 #[.int .u64 bytes] W fun e w' => e = .returned (.string (str d7)) ∧ Below W.heap.size W w')
    (H8 : ∀ W, Below w.heap.size w W → Calls Tryz.prog 132 #[.int .i64 deep] W fun e w' => e = .returned (.string (str d8)) ∧ Below W.heap.size W w') :
    Calls Tryz.prog 52 #[.agg #[.slice a0 n0 k0, .slice a1 n1 k1, .slice a2 n2 k2, .slice a3 n3 k3, .slice a4 n4 k4, .slice a5 n5 k5, .int .i64 pairs, .int .u64 bytes, .int .i64 deep]] w fun e w' => e = .returned (.string (str ([112, 97, 103, 101, 115, 58, 32, 116, 114, 101, 101, 32] ++ d0 ++ [44, 32, 99, 104, 97, 105, 110, 115, 32] ++ d1 ++ [44, 32, 108, 101, 100, 103, 101, 114, 32] ++ d2 ++ [44, 32, 102, 114, 101, 101, 32] ++ d3 ++ d4 ++ d5 ++ [10] ++ [112, 97, 105, 114, 115, 58, 32] ++ d6 ++ [32, 111, 102, 32] ++ d7 ++ [32, 98, 121, 116, 101, 115, 44, 32] ++ d8 ++ [32, 100, 101, 101, 112, 10]))) ∧ Below w.heap.size w w' := by
  have HH0 := Lib.hid H0
  have HH1 := Lib.hid H1
  have HH2 := Lib.hid H2
  have HH3 := Lib.hid H3
  have HH4 := Lib.hid H4
  have HH5 := Lib.hid H5
  have HH6 := Lib.hid H6
  have HH7 := Lib.hid H7
  have HH8 := Lib.hid H8
  have HS : Hid ((⟨#[112, 97, 103, 101, 115, 58, 32, 116, 114, 101, 101, 32]⟩ ++ str d0 ++ ⟨#[44, 32, 99, 104, 97, 105, 110, 115, 32]⟩ ++ str d1 ++ ⟨#[44, 32, 108, 101, 100, 103, 101, 114, 32]⟩ ++ str d2 ++ ⟨#[44, 32, 102, 114, 101, 101, 32]⟩ ++ str d3 ++ str d4 ++ str d5 ++ ⟨#[10]⟩ ++ ⟨#[112, 97, 105, 114, 115, 58, 32]⟩ ++ str d6 ++ ⟨#[32, 111, 102, 32]⟩ ++ str d7 ++ ⟨#[32, 98, 121, 116, 101, 115, 44, 32]⟩ ++ str d8 ++ ⟨#[32, 100, 101, 101, 112, 10]⟩ : ByteArray) = str ([112, 97, 103, 101, 115, 58, 32, 116, 114, 101, 101, 32] ++ d0 ++ [44, 32, 99, 104, 97, 105, 110, 115, 32] ++ d1 ++ [44, 32, 108, 101, 100, 103, 101, 114, 32] ++ d2 ++ [44, 32, 102, 114, 101, 101, 32] ++ d3 ++ d4 ++ d5 ++ [10] ++ [112, 97, 105, 114, 115, 58, 32] ++ d6 ++ [32, 111, 102, 32] ++ d7 ++ [32, 98, 121, 116, 101, 115, 44, 32] ++ d8 ++ [32, 100, 101, 101, 112, 10])) := by
    show _ = _
    have e : (⟨#[112, 97, 103, 101, 115, 58, 32, 116, 114, 101, 101, 32]⟩ ++ str d0 ++ ⟨#[44, 32, 99, 104, 97, 105, 110, 115, 32]⟩ ++ str d1 ++ ⟨#[44, 32, 108, 101, 100, 103, 101, 114, 32]⟩ ++ str d2 ++ ⟨#[44, 32, 102, 114, 101, 101, 32]⟩ ++ str d3 ++ str d4 ++ str d5 ++ ⟨#[10]⟩ ++ ⟨#[112, 97, 105, 114, 115, 58, 32]⟩ ++ str d6 ++ ⟨#[32, 111, 102, 32]⟩ ++ str d7 ++ ⟨#[32, 98, 121, 116, 101, 115, 44, 32]⟩ ++ str d8 ++ ⟨#[32, 100, 101, 101, 112, 10]⟩ : ByteArray) = str [112, 97, 103, 101, 115, 58, 32, 116, 114, 101, 101, 32] ++ str d0 ++ str [44, 32, 99, 104, 97, 105, 110, 115, 32] ++ str d1 ++ str [44, 32, 108, 101, 100, 103, 101, 114, 32] ++ str d2 ++ str [44, 32, 102, 114, 101, 101, 32] ++ str d3 ++ str d4 ++ str d5 ++ str [10] ++ str [112, 97, 105, 114, 115, 58, 32] ++ str d6 ++ str [32, 111, 102, 32] ++ str d7 ++ str [32, 98, 121, 116, 101, 115, 44, 32] ++ str d8 ++ str [32, 100, 101, 101, 112, 10] := rfl
    rw [e]
    simp only [str_append]
  have y_d0 : (str d0).size = d0.length := rfl
  have y_d1 : (str d1).size = d1.length := rfl
  have y_d2 : (str d2).size = d2.length := rfl
  have y_d3 : (str d3).size = d3.length := rfl
  have y_d4 : (str d4).size = d4.length := rfl
  have y_d5 : (str d5).size = d5.length := rfl
  have y_d6 : (str d6).size = d6.length := rfl
  have y_d7 : (str d7).size = d7.length := rfl
  have y_d8 : (str d8).size = d8.length := rfl
  have q1 : ¬ 9223372036854775807 < 12 + d0.length := by omega
  have q2 : ¬ 9223372036854775807 < 12 + d0.length + 9 := by omega
  have q3 : ¬ 9223372036854775807 < 12 + d0.length + 9 + d1.length := by omega
  have q4 : ¬ 9223372036854775807 < 12 + d0.length + 9 + d1.length + 9 := by omega
  have q5 : ¬ 9223372036854775807 < 12 + d0.length + 9 + d1.length + 9 + d2.length := by omega
  have q6 : ¬ 9223372036854775807 < 12 + d0.length + 9 + d1.length + 9 + d2.length + 7 := by omega
  have q7 : ¬ 9223372036854775807 < 12 + d0.length + 9 + d1.length + 9 + d2.length + 7 + d3.length := by omega
  have q8 : ¬ 9223372036854775807 < 12 + d0.length + 9 + d1.length + 9 + d2.length + 7 + d3.length + d4.length := by omega
  have q9 : ¬ 9223372036854775807 < 12 + d0.length + 9 + d1.length + 9 + d2.length + 7 + d3.length + d4.length + d5.length := by omega
  have q10 : ¬ 9223372036854775807 < 12 + d0.length + 9 + d1.length + 9 + d2.length + 7 + d3.length + d4.length + d5.length + 1 := by omega
  have q11 : ¬ 9223372036854775807 < 12 + d0.length + 9 + d1.length + 9 + d2.length + 7 + d3.length + d4.length + d5.length + 1 + 7 := by omega
  have q12 : ¬ 9223372036854775807 < 12 + d0.length + 9 + d1.length + 9 + d2.length + 7 + d3.length + d4.length + d5.length + 1 + 7 + d6.length := by omega
  have q13 : ¬ 9223372036854775807 < 12 + d0.length + 9 + d1.length + 9 + d2.length + 7 + d3.length + d4.length + d5.length + 1 + 7 + d6.length + 4 := by omega
  have q14 : ¬ 9223372036854775807 < 12 + d0.length + 9 + d1.length + 9 + d2.length + 7 + d3.length + d4.length + d5.length + 1 + 7 + d6.length + 4 + d7.length := by omega
  have q15 : ¬ 9223372036854775807 < 12 + d0.length + 9 + d1.length + 9 + d2.length + 7 + d3.length + d4.length + d5.length + 1 + 7 + d6.length + 4 + d7.length + 8 := by omega
  have q16 : ¬ 9223372036854775807 < 12 + d0.length + 9 + d1.length + 9 + d2.length + 7 + d3.length + d4.length + d5.length + 1 + 7 + d6.length + 4 + d7.length + 8 + d8.length := by omega
  have q17 : ¬ 9223372036854775807 < 12 + d0.length + 9 + d1.length + 9 + d2.length + 7 + d3.length + d4.length + d5.length + 1 + 7 + d6.length + 4 + d7.length + 8 + d8.length + 6 := by omega
  clear H0 H1 H2 H3 H4 H5 H6 H7 H8 l_d0 l_d1 l_d2 l_d3 l_d4 l_d5 l_d6 l_d7 l_d8
  revert HS
  generalize str ([112, 97, 103, 101, 115, 58, 32, 116, 114, 101, 101, 32] ++ d0 ++ [44, 32, 99, 104, 97, 105, 110, 115, 32] ++ d1 ++ [44, 32, 108, 101, 100, 103, 101, 114, 32] ++ d2 ++ [44, 32, 102, 114, 101, 101, 32] ++ d3 ++ d4 ++ d5 ++ [10] ++ [112, 97, 105, 114, 115, 58, 32] ++ d6 ++ [32, 111, 102, 32] ++ d7 ++ [32, 98, 121, 116, 101, 115, 44, 32] ++ d8 ++ [32, 100, 101, 101, 112, 10]) = ex
  intro HS
  obtain ⟨w0, hw0⟩ : ∃ w0, w0 = w.alloc (.cells #[.slice a0 n0 k0, .slice a1 n1 k1, .slice a2 n2 k2, .slice a3 n3 k3, .slice a4 n4 k4, .slice a5 n5 k5, .int .i64 pairs, .int .u64 bytes, .int .i64 deep] 106) := ⟨_, rfl⟩
  have x0 : BoxL w0 w.heap.size 106 #[.slice a0 n0 k0, .slice a1 n1 k1, .slice a2 n2 k2, .slice a3 n3 k3, .slice a4 n4 k4, .slice a5 n5 k5, .int .i64 pairs, .int .u64 bytes, .int .i64 deep] := by rw [hw0]; exact BoxL.new w _ _
  have bA : Below w.heap.size w w0.drew := by rw [hw0]; exact ((Below.refl _ _).alloc (Nat.le_refl _) _).drew
  have H0 : Hid (w0.drew.cell? ⟨w.heap.size, 0, none⟩ = some (.slice a0 n0 k0) ∧ w0.drew.cell? ⟨w.heap.size, 1, none⟩ = some (.slice a1 n1 k1) ∧ w0.drew.cell? ⟨w.heap.size, 2, none⟩ = some (.slice a2 n2 k2) ∧ w0.drew.cell? ⟨w.heap.size, 3, none⟩ = some (.slice a3 n3 k3) ∧ w0.drew.cell? ⟨w.heap.size, 4, none⟩ = some (.slice a4 n4 k4) ∧ w0.drew.cell? ⟨w.heap.size, 5, none⟩ = some (.slice a5 n5 k5) ∧ w0.drew.cell? ⟨w.heap.size, 6, none⟩ = some (.int .i64 pairs) ∧ w0.drew.cell? ⟨w.heap.size, 7, none⟩ = some (.int .u64 bytes) ∧ w0.drew.cell? ⟨w.heap.size, 8, none⟩ = some (.int .i64 deep) ∧ Below w.heap.size w w0.drew) := ⟨x0.cell (i := 0) rfl, x0.cell (i := 1) rfl, x0.cell (i := 2) rfl, x0.cell (i := 3) rfl, x0.cell (i := 4) rfl, x0.cell (i := 5) rfl, x0.cell (i := 6) rfl, x0.cell (i := 7) rfl, x0.cell (i := 8) rfl, bA⟩
  have HB0 := Lib.hid bA
  have hmx := mixed0
  rw [hw0] at H0 HB0 x0
  clear bA
  clear x0
  go_enter Tryz.func52, Tryz.ntmps52
  go_wp2
  go_region_held3 (fun W => W.cell? ⟨w.heap.size, 0, none⟩ = some (.slice a0 n0 k0) ∧ W.cell? ⟨w.heap.size, 1, none⟩ = some (.slice a1 n1 k1) ∧ W.cell? ⟨w.heap.size, 2, none⟩ = some (.slice a2 n2 k2) ∧ W.cell? ⟨w.heap.size, 3, none⟩ = some (.slice a3 n3 k3) ∧ W.cell? ⟨w.heap.size, 4, none⟩ = some (.slice a4 n4 k4) ∧ W.cell? ⟨w.heap.size, 5, none⟩ = some (.slice a5 n5 k5) ∧ W.cell? ⟨w.heap.size, 6, none⟩ = some (.int .i64 pairs) ∧ W.cell? ⟨w.heap.size, 7, none⟩ = some (.int .u64 bytes) ∧ W.cell? ⟨w.heap.size, 8, none⟩ = some (.int .i64 deep) ∧ Below w.heap.size w W)
    ((first | with_reducible assumption | exact H0.out | exact stepK9 (Nat.le_refl _) ‹_› hb1))
    (first
      | (go_at_call 132; have tok := HB8; (with_reducible refine (HH8.out _ HB8.out).mono ?_); rintro e w9 ⟨rfl, hb1⟩; have HB9 := Lib.hid (below_step HB8.out hb1))
      | (go_at_call 129; have tok := HB7; (with_reducible refine (HH7.out _ HB7.out).mono ?_); rintro e w8 ⟨rfl, hb1⟩; have HB8 := Lib.hid (below_step HB7.out hb1))
      | (go_at_call 132; have tok := HB6; (with_reducible refine (HH6.out _ HB6.out).mono ?_); rintro e w7 ⟨rfl, hb1⟩; have HB7 := Lib.hid (below_step HB6.out hb1))
      | (go_at_call 141; have tok := HB5; (with_reducible refine (HH5.out _ HB5.out).mono ?_); rintro e w6 ⟨rfl, hb1⟩; have HB6 := Lib.hid (below_step HB5.out hb1))
      | (go_at_call 141; have tok := HB4; (with_reducible refine (HH4.out _ HB4.out).mono ?_); rintro e w5 ⟨rfl, hb1⟩; have HB5 := Lib.hid (below_step HB4.out hb1))
      | (go_at_call 132; have tok := HB3; (with_reducible refine (HH3.out _ HB3.out).mono ?_); rintro e w4 ⟨rfl, hb1⟩; have HB4 := Lib.hid (below_step HB3.out hb1))
      | (go_at_call 132; have tok := HB2; (with_reducible refine (HH2.out _ HB2.out).mono ?_); rintro e w3 ⟨rfl, hb1⟩; have HB3 := Lib.hid (below_step HB2.out hb1))
      | (go_at_call 132; have tok := HB1; (with_reducible refine (HH1.out _ HB1.out).mono ?_); rintro e w2 ⟨rfl, hb1⟩; have HB2 := Lib.hid (below_step HB1.out hb1))
      | (go_at_call 132; (with_reducible refine (HH0.out _ HB0.out).mono ?_); rintro e w1 ⟨rfl, hb1⟩; have HB1 := Lib.hid (below_step HB0.out hb1)))
  all_goals
    go_wp2
    go_ret
    exact ⟨ret_string HS.out, HB9.out⟩
end Go.Proofs.YtgmneapgihakgaaGreatDoor
