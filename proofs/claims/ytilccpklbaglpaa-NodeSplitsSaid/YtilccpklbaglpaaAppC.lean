/- append of a row of cells to a row of one's own: as a run equation. -/
import Derived.Test.YtilccpklbaglpaaNdBase
import Derived.Maps.AppendAt
import Derived.Laws.AppendOwnNone
import Derived.Lib.AppendZerosOnto
import Derived.Lib.Walk
set_option maxRecDepth 100000
set_option maxHeartbeats 4000000
set_option linter.unusedVariables false
namespace Go.Proofs.Ytilccpklbaglpaa
open Go.RowKit
open Sl (Cl Kd)
theorem appC (w : World) (B : Nat) (u v : Value) (l m : List Cl) (ty : TypeId) (hB : B ≤ w.heap.size) (hu : RowC w B u l) (hv : SlC w v m) (hc : Cap v) (hl : l.length ≤ 200000) (hm : m.length ≤ 200000) :
    ∃ v' w', (Builtin.append_ #[40, 40] ty #[u, v]).run Try.prog w = .ok v' w' ∧ RowC w' B v' (l ++ m) ∧ w.grownBy w' u.ownBlock ∧ Below B w w' := by
  obtain ⟨i0, hi, hz0, hz1, hz2⟩ := info_parts info42
  obtain ⟨a, b, o, c, rfl, ha, hx⟩ := hv
  cases a with
  | none =>
    have hc0 : c = 0 := by cases hc with | mk _ _ _ _ _ h0 => exact h0 rfl
    have hm0 : m = [] := by
      rcases ha with h | h
      · exact h
      · cases h
    subst hc0 hm0
    refine ⟨u, w, run_append_owned_none (P := Try.prog) (w := w) B 40 ty 42 i0 4 Try.underlying40 hi u l.length (l.flatMap cellsC) hu, by rw [List.append_nil]; exact hu, ⟨rfl, rfl, rfl, Nat.le_refl _, fun _ _ _ => rfl⟩, Below.refl _ _⟩
  | some ad =>
    obtain ⟨v', w', hr, h2, h3, _, h5⟩ := run_append_own_at (P := Try.prog) w B 40 ty 42 i0 _ 4 40 Try.underlying40 hi hz0 hz1 hz2 rfl (by decide) u l.length (l.flatMap cellsC) hu ad m.length c (m.flatMap cellsC) (flat_len _ _ cellsC_len _) (by
      intro j y hj
      rcases ha with h | h
      · subst h; simp at hj
      · cases h
        exact SlC.flat hx j y hj) (flat_oneC _) (by unfold maxLen; omega) (by omega) hB
    refine ⟨v', w', hr, ?_, h3, (Below.refl _ w).grown h3 hB (fun k hk => (World.ownsRow.lt hu k hk).1)⟩
    show w'.ownsRow _ _ _ _ _ _
    rw [List.flatMap_append, List.length_append]; exact h2
end Go.Proofs.Ytilccpklbaglpaa
