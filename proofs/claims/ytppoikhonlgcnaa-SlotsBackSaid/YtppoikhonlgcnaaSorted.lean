/- The contracts of cmp.Less and slices.IsSorted, at ints. -/
import Derived.Test.YtppoikhonlgcnaaRefs
import Derived.Test.YtppoikhonlgcnaaShelf
import Derived.Test.YtppoikhonlgcnaaMod
import Derived.BigQuiet
import Derived.Deep.QuietTactic
import Derived.Deep.LoopGhost
import Derived.Test.YtppoikhonlgcnaaBig
namespace Go.Proofs.Ytppoikhonlgcnaa
open Go.RowKit
theorem less_int (x y : Int) (w : World) :
    Calls Try.prog 104 #[.int .i64 x, .int .i64 y] w fun e w' => e = .returned (.bool (decide (x < y))) ∧ w' = w := by
  have HN := Lib.hid (fun z W => Try.cmp_isNaN_int z W)
  go_enter Try.func104, Try.ntmps104
  go_wp2_with (go_at_call 110; refine (HN.out _ _).mono ?_; rintro e w1 ⟨rfl, rfl⟩)
  go_ret
  exact ⟨rfl, rfl⟩
inductive SortOut (xs : List Nat) (w : World) (e : Ending) (w' : World) : Prop
  | yes (h : ∀ i, i + 1 < xs.length → xs.getD i 0 ≤ xs.getD (i + 1) 0) (he : e = .returned (.bool true)) (k : Nat) (hw : w' = w.drewN k)
  | no (i : Nat) (hi : i + 1 < xs.length) (h : xs.getD (i + 1) 0 < xs.getD i 0) (he : e = .returned (.bool false)) (k : Nat) (hw : w' = w.drewN k)
set_option maxHeartbeats 2000000 in
theorem sorted_any (g cap : Nat) (xs : List Nat) (hl : xs.length ≤ 100000) (h1 : 1 ≤ xs.length) (w : World) (hx : ∀ j, j < xs.length → w.cell? ⟨g, j, none⟩ = some (.int .i64 (xs.getD j 0 : Nat))) :
    Calls Try.prog 92 #[.slice (some ⟨g, 0, none⟩) xs.length cap] w (SortOut xs w) := by
  have HX := Lib.hid hx
  clear hx
  go_enter Try.func92, Try.ntmps92
  go_wp2
  go_loopg [3] (xs.length - 1) (fun n i wr => ∃ m : Nat, m + 1 ≤ xs.length ∧ n = m ∧ i = .int .i64 m ∧ Hid (∀ j, m ≤ j → j + 1 < xs.length → xs.getD j 0 ≤ xs.getD (j + 1) 0) ∧ Hid (∃ k, wr = w.drewN k))
  case atStart => exact ⟨xs.length - 1, by omega, rfl, val_i64 (by omega), fun j h1 h2 => by omega, 0, rfl⟩
  case round =>
    obtain ⟨m, hm, hgm, rfl, HS, HW⟩ := hrel
    cases m with
    | zero =>
      go_wp2
      go_ret
      obtain ⟨k, hk⟩ := HW.out
      exact .yes (fun i hi => HS.out i (Nat.zero_le _) hi) rfl k hk
    | succ q =>
      have c1 : wr.cell? ⟨g, q + 1, none⟩ = some (.int .i64 (xs.getD (q + 1) 0 : Nat)) := by obtain ⟨k, hk⟩ := HW.out; rw [hk]; exact HX.out (q + 1) (by omega)
      have c0 : wr.cell? ⟨g, q, none⟩ = some (.int .i64 (xs.getD q 0 : Nat)) := by obtain ⟨k, hk⟩ := HW.out; rw [hk]; exact HX.out q (by omega)
      have hq0 : (0 : Int) ≤ (q : Int) := by omega
      have hq1 : (0 : Int) ≤ (q : Int) + 1 := by omega
      have hq2 : (q : Int) < xs.length := by omega
      have hq3 : (q : Int) + 1 < xs.length := by omega
      have hq4 : ((q : Int) + 1).toNat = q + 1 := by omega
      have hgt : (0 : Int) < (q : Int) + 1 := by omega
      revert c0 c1
      generalize ha : xs.getD (q + 1) 0 = x1
      generalize hb : xs.getD q 0 = x0
      intro c1 c0
      have HA := Lib.hid ha
      have HB := Lib.hid hb
      clear ha hb
      by_cases hlt : x1 < x0
      · have hd : decide ((x1 : Int) < (x0 : Int)) = true := by rw [decide_eq_true_eq]; omega
        go_wp2_with fail
        go_quiet ((go_at_call 104; exact Calls.quiet_of_same (less_int _ _ _)))
        go_wp2
        go_ret
        obtain ⟨k, hk⟩ := HW.out
        exact .no q (by omega) (by rw [HA.out, HB.out]; exact hlt) rfl _ (by rw [hk, World.drewN_drewN])
      · have hd : decide ((x1 : Int) < (x0 : Int)) = false := by rw [decide_eq_false_iff_not]; omega
        go_wp2_with fail
        go_quiet ((go_at_call 104; exact Calls.quiet_of_same (less_int _ _ _)))
        clear hq4
        go_wp2
        go_roundg q
        case measure => omega
        case rel =>
          refine ⟨q, by omega, rfl, rfl, fun j h2 h3 => ?_, ?_⟩
          · by_cases hj : j = q
            · subst hj; rw [HA.out, HB.out]; omega
            · exact HS.out j (by omega) h3
          · obtain ⟨k, hk⟩ := HW.out
            exact ⟨_, by rw [hk, World.drewN_drewN]⟩
end Go.Proofs.Ytppoikhonlgcnaa
