/- The library's reversal of a part of a row. -/
import Derived.Test.YtdkkcogjkeonkaaUxPr
set_option maxRecDepth 100000
set_option maxHeartbeats 4000000
set_option linter.unusedVariables false
namespace Go.Proofs.Ytdkkcogjkeonkaa
open Go.RowKit
open Go.Sort (swp PermIn SortedIn)
variable {sz cap B g : Nat} {w W W' : World} {d : Array Nat}
theorem rev32_any (h : PR sz cap B g w d W) (hsz : sz ≤ 1000) (hcap : sz ≤ cap) (a b : Nat) (hab : a < b) (hb : b ≤ sz) :
    Calls Try.prog 50 #[.slice (some ⟨g, 0, none⟩) sz cap, .int .i64 a, .int .i64 b] W fun e W' => e = .returned (.tuple #[]) ∧ ∃ d', PermIn a b d d' ∧ PR sz cap B g w d' W' := by
  have H0 := Lib.hid h
  have HSZ := Lib.hid h.size
  clear h
  go_enter Try.func50, Try.ntmps50
  go_wp2
  go_loopg [6, 7] (b - 1 - a) (fun k s6 s7 X => ∃ (i j : Nat) (d' : Array Nat), s6 = .int .i64 i ∧ s7 = .int .i64 j ∧ k = j - i ∧ a ≤ i ∧ j < b ∧ i ≤ b ∧ Hid (PR sz cap B g w d' X) ∧ Hid (PermIn a b d d'))
  case atStart => exact ⟨a, b - 1, d, rfl, by go_num, rfl, by omega, by omega, by omega, H0, permRefl _ _ _⟩
  case round =>
    obtain ⟨i, j, d', rfl, rfl, rfl, hai, hjb, hib, HP, HM⟩ := hrel
    by_cases hlt : i < j
    · have hltz : (i : Int) < (j : Int) := by omega
      obtain ⟨G, hG⟩ : ∃ G : Nat → Nat, ∀ t, G t = d'[t]! := ⟨fun t => d'[t]!, fun _ => rfl⟩
      have ci : wr.cell? ⟨g, i, none⟩ = some (.int .u32 (G i)) := by rw [hG]; exact (HP.out.cell i (by omega)).1
      have cj : wr.cell? ⟨g, j, none⟩ = some (.int .u32 (G j)) := by rw [hG]; exact (HP.out.cell j (by omega)).1
      have fi := (HP.out.cell i (by omega)).2
      have fj := (HP.out.cell j (by omega)).2
      have hi0 : (i : Int) < (sz : Int) := by omega
      have hj0 : (j : Int) < (sz : Int) := by omega
      have HS := Lib.hid (HP.out.swap 1 i j (by omega) (by omega) hcap)
      have HG := Lib.hid hG
      have HM2 : Hid (PermIn a b d (swp d' i j)) := permTrans HM.out (permSwp d' hai (by omega) (by omega) hjb (by rw [HP.out.size]; exact hb))
      clear hG hlt
      go_wp2
      go_region
      all_goals go_wp2
      go_roundg (j - 1 - (i + 1))
      case measure => omega
      case rel => exact ⟨i + 1, j - 1, swp d' i j, by go_num, by go_num, rfl, by omega, by omega, by omega, by rw [HG.out, HG.out]; exact HS, HM2⟩
    · have hltz : ¬ (i : Int) < (j : Int) := by omega
      go_wp2
      go_end0
      exact ⟨rfl, d', HM.out, HP.out⟩
end Go.Proofs.Ytdkkcogjkeonkaa
