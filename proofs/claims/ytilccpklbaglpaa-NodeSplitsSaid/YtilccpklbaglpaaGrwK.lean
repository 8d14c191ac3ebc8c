/- The contract of slices.Grow of no row. -/
import Derived.Test.YtilccpklbaglpaaNdBase
import Derived.Lib.SliceRun
import Derived.Lib.Walk
import Derived.Lib.AppendZerosOnto
set_option maxRecDepth 100000
set_option maxHeartbeats 4000000
set_option linter.unusedVariables false
namespace Go.Proofs.Ytilccpklbaglpaa
open Go.RowKit
open Sl (Cl Kd)
theorem growK_any (n : Nat) (hn : n ≤ 200000) (w : World) : Calls Try.prog 98 #[.slice none 0 0, .int .i64 n] w (OwnK [] w) := by
  obtain ⟨i0, hi, hz0, hz1, hz2⟩ := info_parts info47
  by_cases h0 : n = 0
  · subst h0
    go_enter Try.func98, Try.ntmps98
    go_wp2
    go_ret
    exact ⟨_, rfl, World.ownsRow_nil _ _ _ _, Below.refl _ _⟩
  · have h1 : ¬ ((n : Int) < 0) := by omega
    have h2 : wrap64 ((0 : Int) - (0 : Int)) = (0 : Int) := by unfold wrap64; omega
    have h3 : wrap64 ((n : Int) - 0) = (n : Int) := by unfold wrap64; omega
    have h4 : (n : Int) > 0 := by omega
    have hold : (Builtin.firstCells i0.size 0 (.slice none 0 0)).run Try.prog w.drew = .ok (([] : List Value).toArray) w.drew := run_firstCells_none w.drew i0.size 0 0 0
    have hs0 : 0 < i0.size := by rw [hz1]; decide
    have hrz : ∀ ty, (Builtin.append_ #[44, 3] ty #[.slice none 0 0, .int .i64 (n : Int)]).run Try.prog w =
        .ok (.slice (some ⟨w.heap.size, 0, none⟩) n (grownCap w n 0 52)) (w.drew.alloc (.cells (([] : List Value).toArray ++ Builtin.zeroCells _ n ++ Builtin.zeroCells _ (grownCap w n 0 52 - n)) 52)) := fun ty => by
      have h := Lib.run_append_grow_zeros w 44 3 ty 52 i0 _ .i64 .i64 Try.underlying44 Try.underlying3 hi hz0 none 0 0 [] hold n (by omega) hs0 (by omega) (by omega) (by rw [hz2]; omega) (by rw [Nat.zero_add, hz2]; exact growslice_fits (by omega) (by omega))
      simp only [Nat.zero_add] at h
      exact h
    have hGn : n ≤ grownCap w n 0 52 := grownCap_ge w _ _ _
    obtain ⟨G, hG⟩ : ∃ G, G = grownCap w n 0 52 := ⟨_, rfl⟩
    rw [← hG] at hrz hGn
    have hG63 : G ≤ 9223372036854775807 := by
      have := grownCap_le_maxLen w n 0 52 (by unfold maxLen; omega)
      rw [← hG] at this
      unfold maxLen at this
      omega
    have hrow := fun (cur : Array Value) (hs : cur.size = G * 2) => World.ownsRow_made (base := w.heap.size) (e := 52) w.drew cur G (Nat.le_refl _) (by unfold maxLen; omega) hs
    have HRW := Lib.hid hrow
    clear hold hG hs0 hrow
    go_enter Try.func98, Try.ntmps98
    go_wp2_with (at_builtin; refine Lib.wpList_append_run _ rfl _ _ _ _ rfl _ _ rfl rfl _ _ (hrz _) ?_)
    all_goals (go_ret; refine ⟨_, rfl, HRW.out _ ?_, ((Below.refl _ w).drew.alloc (Nat.le_refl _) _)⟩)
    all_goals (simp only [Array.size_append, size_zeroCells, List.size_toArray]; rw [← Nat.add_mul, show n + (G - n) = G by omega]; rfl)
end Go.Proofs.Ytilccpklbaglpaa
