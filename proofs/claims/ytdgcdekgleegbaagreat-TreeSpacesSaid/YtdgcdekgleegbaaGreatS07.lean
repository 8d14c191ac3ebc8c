/- Texts of one seat, merged. -/
import Derived.Test.YtdgcdekgleegbaaGreatS04
import Derived.Lib.SliceRun
import Derived.Lib.Walk
import Derived.Lib.AppendZerosOnto
import Derived.Test.YtdgcdekgleegbaaGreatS05
import Derived.Deep.LoopGhost
import Derived.Laws.AppendOwnNone
import Derived.BigQuiet
import Derived.Deep.QuietTactic
set_option maxRecDepth 100000
set_option maxHeartbeats 4000000
set_option linter.unusedVariables false
/- The contract of slices.Grow of no row. -/
namespace Go.Proofs.YtdgcdekgleegbaaGreat
open Go.RowKit
open Sl (Cl Kd)
theorem growC_any (n : Nat) (hn : n ≤ 200000) (w : World) : Calls Tryz.prog 191 #[.slice none 0 0, .int .i64 n] w (OwnC [] w) := by
  obtain ⟨i0, hi, hz0, hz1, hz2⟩ := info_parts info42
  by_cases h0 : n = 0
  · subst h0
    go_enter Tryz.func191, Tryz.ntmps191
    go_wp2
    go_ret
    exact ⟨_, rfl, World.ownsRow_nil _ _ _ _, Below.refl _ _⟩
  · have h1 : ¬ ((n : Int) < 0) := by omega
    have h2 : wrap64 ((0 : Int) - (0 : Int)) = (0 : Int) := by unfold wrap64; omega
    have h3 : wrap64 ((n : Int) - 0) = (n : Int) := by unfold wrap64; omega
    have h4 : (n : Int) > 0 := by omega
    have hold : (Builtin.firstCells i0.size 0 (.slice none 0 0)).run Tryz.prog w.drew = .ok (([] : List Value).toArray) w.drew := run_firstCells_none w.drew i0.size 0 0 0
    have hs0 : 0 < i0.size := by rw [hz1]; decide
    have hrz : ∀ ty, (Builtin.append_ #[29, 3] ty #[.slice none 0 0, .int .i64 (n : Int)]).run Tryz.prog w =
        .ok (.slice (some ⟨w.heap.size, 0, none⟩) n (grownCap w n 0 32)) (w.drew.alloc (.cells (([] : List Value).toArray ++ Builtin.zeroCells _ n ++ Builtin.zeroCells _ (grownCap w n 0 32 - n)) 32)) := fun ty => by
      have h := Lib.run_append_grow_zeros w 29 3 ty 32 i0 _ .i64 .i64 Tryz.underlying29 Tryz.underlying3 hi hz0 none 0 0 [] hold n (by omega) hs0 (by omega) (by omega) (by rw [hz2]; omega) (by rw [Nat.zero_add, hz2]; exact growslice_fits (by omega) (by omega))
      simp only [Nat.zero_add] at h
      exact h
    have hGn : n ≤ grownCap w n 0 32 := grownCap_ge w _ _ _
    obtain ⟨G, hG⟩ : ∃ G, G = grownCap w n 0 32 := ⟨_, rfl⟩
    rw [← hG] at hrz hGn
    have hG63 : G ≤ 9223372036854775807 := by
      have := grownCap_le_maxLen w n 0 32 (by unfold maxLen; omega)
      rw [← hG] at this
      unfold maxLen at this
      omega
    have hrow := fun (cur : Array Value) (hs : cur.size = G * 4) => World.ownsRow_made (base := w.heap.size) (e := 32) w.drew cur G (Nat.le_refl _) (by unfold maxLen; omega) hs
    have HRW := Lib.hid hrow
    clear hold hG hs0 hrow
    go_enter Tryz.func191, Tryz.ntmps191
    go_wp2_with (at_builtin; refine Lib.wpList_append_run _ rfl _ _ _ _ rfl _ _ rfl rfl _ _ (hrz _) ?_)
    all_goals (go_ret; refine ⟨_, rfl, HRW.out _ ?_, ((Below.refl _ w).drew.alloc (Nat.le_refl _) _)⟩)
    all_goals (simp only [Array.size_append, size_zeroCells, List.size_toArray]; rw [← Nat.add_mul, show n + (G - n) = G by omega]; rfl)
end Go.Proofs.YtdgcdekgleegbaaGreat
/- The contract of slices.Concat, at two rows. -/
namespace Go.Proofs.YtdgcdekgleegbaaGreat
open Go.RowKit
open Sl (Cl Kd Nd Rn)
theorem ontoC {w1 : World} {B : Nat} {v' : Value} {l m : List Cl} (h : w1.ownsRow B 32 4 v' (l.length + m.length) (l.flatMap cellsC ++ m.flatMap cellsC)) : RowC w1 B v' (l ++ m) := by
  show w1.ownsRow _ _ _ _ _ _
  rw [List.flatMap_append, List.length_append]; exact h
theorem concatC_any (g : Nat) (u v : Value) (l m : List Cl) (hl : l.length ≤ 100000) (hm : m.length ≤ 100000) (w : World) (hu : SlC w u l) (hv : SlC w v m)
    (h0 : w.cell? ⟨g, 0, none⟩ = some u) (h1 : w.cell? ⟨g, 1, none⟩ = some v) (hcu : Cap u) (hcv : Cap v) :
    Calls Tryz.prog 177 #[.slice (some ⟨g, 0, none⟩) 2 2] w (OwnC (l ++ m) w) := by
  obtain ⟨i0, hi, hz0, hz1, hz2⟩ := info_parts info42
  obtain ⟨a, b, o, c, rfl, ha, hx⟩ := hu
  obtain ⟨a', b', o', c', rfl, ha', hx'⟩ := hv
  have hz := show a = none → c = 0 by cases hcu; assumption
  have hz' := show a' = none → c' = 0 by cases hcv; assumption
  clear hcu hcv
  have HX := Lib.hid (SlC.flat hx)
  have HA := Lib.hid ha
  have HX' := Lib.hid (SlC.flat hx')
  have HA' := Lib.hid ha'
  clear ha hx ha' hx'
  have hsz : l.length + m.length ≤ 200000 := by omega
  have HG := Lib.hid (fun W => growC_any (l.length + m.length) hsz W)
  have hgl : g < w.heap.size := World.block_lt_of_cell? _ _ h0
  go_enter Tryz.func177, Tryz.ntmps177
  go_wp2
  go_loopg [3, 11] 2 (fun n s i wr => ∃ k : Nat, k ≤ 2 ∧ n = 2 - k ∧ i = .int .i64 k ∧ s = .int .i64 ((if k = 0 then 0 else if k = 1 then l.length else l.length + m.length : Nat) : Int) ∧ w = wr)
  case atStart => exact ⟨0, by decide, rfl, rfl, rfl, rfl⟩
  case round =>
    obtain ⟨k, hk, rfl, rfl, rfl, rfl⟩ := hrel
    by_cases hk0 : k = 0
    · subst hk0
      simp only [if_true]
      go_wp2
      go_roundg 1
      case measure => omega
      case rel => exact ⟨1, by decide, rfl, rfl, by simp, rfl⟩
    · by_cases hk1 : k = 1
      · subst hk1
        simp only [if_true, if_neg (show ¬ 1 = 0 by decide)]
        go_wp2
        go_roundg 0
        case measure => omega
        case rel => exact ⟨2, by decide, rfl, rfl, by simp, rfl⟩
      · obtain rfl : k = 2 := by omega
        simp only [if_neg (show ¬ 2 = 0 by decide), if_neg (show ¬ 2 = 1 by decide)]
        go_wp2_with (go_at_call 191; refine (HG.out _).mono ?_; rintro e w1 ⟨v1, rfl, hr1, hb1⟩; have HR1 := Lib.hid hr1; have HB1 := Lib.hid hb1; clear hr1 hb1)
        clear HG
        generalize ((l.length : Int) + (m.length : Int)) = T
        go_loopg [6, 27] 2 (fun n s i wr => ∃ k : Nat, k ≤ 2 ∧ n = 2 - k ∧ i = .int .i64 k ∧ Hid (RowC wr w.heap.size s (if k = 0 then [] else if k = 1 then l else l ++ m)) ∧ Hid (Below w.heap.size w wr))
        case atStart => exact ⟨0, by decide, rfl, rfl, HR1.out, HB1.out⟩
        case round =>
          obtain ⟨k, hk, rfl, rfl, HO, HB⟩ := hrel
          by_cases hk0 : k = 0
          · subst hk0
            simp only [if_true] at HO
            have e0 := (HB.out.cell (p := ⟨g, 0, none⟩) hgl).trans h0
            cases a with
            | none =>
              obtain rfl : c = 0 := hz rfl
              have hl0 : l = [] := by
                rcases HA.out with h | h
                · exact h
                · cases h
              subst hl0
              go_wp2_with (at_builtin; refine wpList_append_own_none rfl _ _ 29 rfl w.heap.size 32 i0 4 Tryz.underlying29 hi _ _ _ rfl HO.out rfl ?_)
              go_wp2
              go_roundg 1
              case measure => omega
              case rel => exact ⟨1, by decide, rfl, rfl, Lib.hid (by simpa using HO.out), HB.out⟩
            | some ad =>
              go_wp2_with (at_builtin; refine wpList_append_own _ rfl _ _ 29 rfl w.heap.size 32 i0 _ 4 40 Tryz.underlying29 hi hz0 hz1 hz2 rfl (by decide) _ _ _ rfl HO.out ad l.length c (l.flatMap cellsC) rfl ?p0 ?p1 ?p2 ?p3 ?p4 ?p5 ?_)
              case p0 => exact flat_len _ _ cellsC_len _
              case p1 =>
                intro j y hj
                rcases HA.out with h | h
                · subst h; simp at hj
                · cases h
                  have hc1 := HX.out j y hj
                  have hb1 := World.block_lt_of_cell? _ _ hc1
                  exact (HB.out.cell hb1).trans hc1
              case p2 => exact flat_oneC _
              case p3 => unfold maxLen; (try simp); omega
              case p4 => (try simp); omega
              case p5 => exact HB.out.size
              intro v' w4 hown hgrow _
              have HO4 : Hid (RowC w4 w.heap.size v' ([] ++ l)) := ontoC (by simpa using hown)
              have HB4 : Hid (Below w.heap.size w w4) := HB.out.grown hgrow HB.out.size (fun k hk => (World.ownsRow.lt HO.out k hk).1)
              clear hown hgrow
              go_wp2
              go_roundg 1
              case measure => omega
              case rel => exact ⟨1, by decide, rfl, rfl, Lib.hid (by simpa using HO4.out), HB4.out⟩
          · by_cases hk1 : k = 1
            · subst hk1
              simp only [if_true, if_neg (show ¬ 1 = 0 by decide)] at HO
              have e1 := (HB.out.cell (p := ⟨g, 1, none⟩) hgl).trans h1
              cases a' with
              | none =>
                obtain rfl : c' = 0 := hz' rfl
                have hl0 : m = [] := by
                  rcases HA'.out with h | h
                  · exact h
                  · cases h
                subst hl0
                go_wp2_with (at_builtin; refine wpList_append_own_none rfl _ _ 29 rfl w.heap.size 32 i0 4 Tryz.underlying29 hi _ _ _ rfl HO.out rfl ?_)
                go_wp2
                go_roundg 0
                case measure => omega
                case rel => exact ⟨2, by decide, rfl, rfl, Lib.hid (by simpa using HO.out), HB.out⟩
              | some ad =>
                go_wp2_with (at_builtin; refine wpList_append_own _ rfl _ _ 29 rfl w.heap.size 32 i0 _ 4 40 Tryz.underlying29 hi hz0 hz1 hz2 rfl (by decide) _ _ _ rfl HO.out ad m.length c' (m.flatMap cellsC) rfl ?p0 ?p1 ?p2 ?p3 ?p4 ?p5 ?_)
                case p0 => exact flat_len _ _ cellsC_len _
                case p1 =>
                  intro j y hj
                  rcases HA'.out with h | h
                  · subst h; simp at hj
                  · cases h
                    have hc1 := HX'.out j y hj
                    have hb1 := World.block_lt_of_cell? _ _ hc1
                    exact (HB.out.cell hb1).trans hc1
                case p2 => exact flat_oneC _
                case p3 => unfold maxLen; (try simp); omega
                case p4 => (try simp); omega
                case p5 => exact HB.out.size
                intro v' w4 hown hgrow _
                have HO4 : Hid (RowC w4 w.heap.size v' (l ++ m)) := ontoC (by simpa using hown)
                have HB4 : Hid (Below w.heap.size w w4) := HB.out.grown hgrow HB.out.size (fun k hk => (World.ownsRow.lt HO.out k hk).1)
                clear hown hgrow
                go_wp2
                go_roundg 0
                case measure => omega
                case rel => exact ⟨2, by decide, rfl, rfl, Lib.hid (by simpa using HO4.out), HB4.out⟩
            · obtain rfl : k = 2 := by omega
              simp only [if_neg (show ¬ 2 = 0 by decide), if_neg (show ¬ 2 = 1 by decide)] at HO
              go_wp2
              go_ret
              exact ⟨_, rfl, HO.out, HB.out⟩
end Go.Proofs.YtdgcdekgleegbaaGreat
/- The contract of slices.Grow of no row. -/
namespace Go.Proofs.YtdgcdekgleegbaaGreat
open Go.RowKit
open Sl (Cl Kd)
theorem growK_any (n : Nat) (hn : n ≤ 200000) (w : World) : Calls Tryz.prog 192 #[.slice none 0 0, .int .i64 n] w (OwnK [] w) := by
  obtain ⟨i0, hi, hz0, hz1, hz2⟩ := info_parts info47
  by_cases h0 : n = 0
  · subst h0
    go_enter Tryz.func192, Tryz.ntmps192
    go_wp2
    go_ret
    exact ⟨_, rfl, World.ownsRow_nil _ _ _ _, Below.refl _ _⟩
  · have h1 : ¬ ((n : Int) < 0) := by omega
    have h2 : wrap64 ((0 : Int) - (0 : Int)) = (0 : Int) := by unfold wrap64; omega
    have h3 : wrap64 ((n : Int) - 0) = (n : Int) := by unfold wrap64; omega
    have h4 : (n : Int) > 0 := by omega
    have hold : (Builtin.firstCells i0.size 0 (.slice none 0 0)).run Tryz.prog w.drew = .ok (([] : List Value).toArray) w.drew := run_firstCells_none w.drew i0.size 0 0 0
    have hs0 : 0 < i0.size := by rw [hz1]; decide
    have hrz : ∀ ty, (Builtin.append_ #[69, 3] ty #[.slice none 0 0, .int .i64 (n : Int)]).run Tryz.prog w =
        .ok (.slice (some ⟨w.heap.size, 0, none⟩) n (grownCap w n 0 135)) (w.drew.alloc (.cells (([] : List Value).toArray ++ Builtin.zeroCells _ n ++ Builtin.zeroCells _ (grownCap w n 0 135 - n)) 135)) := fun ty => by
      have h := Lib.run_append_grow_zeros w 69 3 ty 135 i0 _ .i64 .i64 Tryz.underlying69 Tryz.underlying3 hi hz0 none 0 0 [] hold n (by omega) hs0 (by omega) (by omega) (by rw [hz2]; omega) (by rw [Nat.zero_add, hz2]; exact growslice_fits (by omega) (by omega))
      simp only [Nat.zero_add] at h
      exact h
    have hGn : n ≤ grownCap w n 0 135 := grownCap_ge w _ _ _
    obtain ⟨G, hG⟩ : ∃ G, G = grownCap w n 0 135 := ⟨_, rfl⟩
    rw [← hG] at hrz hGn
    have hG63 : G ≤ 9223372036854775807 := by
      have := grownCap_le_maxLen w n 0 135 (by unfold maxLen; omega)
      rw [← hG] at this
      unfold maxLen at this
      omega
    have hrow := fun (cur : Array Value) (hs : cur.size = G * 2) => World.ownsRow_made (base := w.heap.size) (e := 135) w.drew cur G (Nat.le_refl _) (by unfold maxLen; omega) hs
    have HRW := Lib.hid hrow
    clear hold hG hs0 hrow
    go_enter Tryz.func192, Tryz.ntmps192
    go_wp2_with (at_builtin; refine Lib.wpList_append_run _ rfl _ _ _ _ rfl _ _ rfl rfl _ _ (hrz _) ?_)
    all_goals (go_ret; refine ⟨_, rfl, HRW.out _ ?_, ((Below.refl _ w).drew.alloc (Nat.le_refl _) _)⟩)
    all_goals (simp only [Array.size_append, size_zeroCells, List.size_toArray]; rw [← Nat.add_mul, show n + (G - n) = G by omega]; rfl)
end Go.Proofs.YtdgcdekgleegbaaGreat
/- The contract of slices.Concat, at two rows. -/
namespace Go.Proofs.YtdgcdekgleegbaaGreat
open Go.RowKit
open Sl (Cl Kd Nd Rn)
theorem ontoK {w1 : World} {B : Nat} {v' : Value} {l m : List Kd} (h : w1.ownsRow B 135 2 v' (l.length + m.length) (l.flatMap cellsK ++ m.flatMap cellsK)) : RowK w1 B v' (l ++ m) := by
  show w1.ownsRow _ _ _ _ _ _
  rw [List.flatMap_append, List.length_append]; exact h
theorem concatK_any (g : Nat) (u v : Value) (l m : List Kd) (hl : l.length ≤ 100000) (hm : m.length ≤ 100000) (w : World) (hu : SlK w u l) (hv : SlK w v m)
    (h0 : w.cell? ⟨g, 0, none⟩ = some u) (h1 : w.cell? ⟨g, 1, none⟩ = some v) (hcu : Cap u) (hcv : Cap v) :
    Calls Tryz.prog 178 #[.slice (some ⟨g, 0, none⟩) 2 2] w (OwnK (l ++ m) w) := by
  obtain ⟨i0, hi, hz0, hz1, hz2⟩ := info_parts info47
  obtain ⟨a, b, o, c, rfl, ha, hx⟩ := hu
  obtain ⟨a', b', o', c', rfl, ha', hx'⟩ := hv
  have hz := show a = none → c = 0 by cases hcu; assumption
  have hz' := show a' = none → c' = 0 by cases hcv; assumption
  clear hcu hcv
  have HX := Lib.hid (SlK.flat hx)
  have HA := Lib.hid ha
  have HX' := Lib.hid (SlK.flat hx')
  have HA' := Lib.hid ha'
  clear ha hx ha' hx'
  have hsz : l.length + m.length ≤ 200000 := by omega
  have HG := Lib.hid (fun W => growK_any (l.length + m.length) hsz W)
  have hgl : g < w.heap.size := World.block_lt_of_cell? _ _ h0
  go_enter Tryz.func178, Tryz.ntmps178
  go_wp2
  go_loopg [3, 11] 2 (fun n s i wr => ∃ k : Nat, k ≤ 2 ∧ n = 2 - k ∧ i = .int .i64 k ∧ s = .int .i64 ((if k = 0 then 0 else if k = 1 then l.length else l.length + m.length : Nat) : Int) ∧ w = wr)
  case atStart => exact ⟨0, by decide, rfl, rfl, rfl, rfl⟩
  case round =>
    obtain ⟨k, hk, rfl, rfl, rfl, rfl⟩ := hrel
    by_cases hk0 : k = 0
    · subst hk0
      simp only [if_true]
      go_wp2
      go_roundg 1
      case measure => omega
      case rel => exact ⟨1, by decide, rfl, rfl, by simp, rfl⟩
    · by_cases hk1 : k = 1
      · subst hk1
        simp only [if_true, if_neg (show ¬ 1 = 0 by decide)]
        go_wp2
        go_roundg 0
        case measure => omega
        case rel => exact ⟨2, by decide, rfl, rfl, by simp, rfl⟩
      · obtain rfl : k = 2 := by omega
        simp only [if_neg (show ¬ 2 = 0 by decide), if_neg (show ¬ 2 = 1 by decide)]
        go_wp2_with (go_at_call 192; refine (HG.out _).mono ?_; rintro e w1 ⟨v1, rfl, hr1, hb1⟩; have HR1 := Lib.hid hr1; have HB1 := Lib.hid hb1; clear hr1 hb1)
        clear HG
        generalize ((l.length : Int) + (m.length : Int)) = T
        go_loopg [6, 27] 2 (fun n s i wr => ∃ k : Nat, k ≤ 2 ∧ n = 2 - k ∧ i = .int .i64 k ∧ Hid (RowK wr w.heap.size s (if k = 0 then [] else if k = 1 then l else l ++ m)) ∧ Hid (Below w.heap.size w wr))
        case atStart => exact ⟨0, by decide, rfl, rfl, HR1.out, HB1.out⟩
        case round =>
          obtain ⟨k, hk, rfl, rfl, HO, HB⟩ := hrel
          by_cases hk0 : k = 0
          · subst hk0
            simp only [if_true] at HO
            have e0 := (HB.out.cell (p := ⟨g, 0, none⟩) hgl).trans h0
            cases a with
            | none =>
              obtain rfl : c = 0 := hz rfl
              have hl0 : l = [] := by
                rcases HA.out with h | h
                · exact h
                · cases h
              subst hl0
              go_wp2_with (at_builtin; refine wpList_append_own_none rfl _ _ 69 rfl w.heap.size 135 i0 2 Tryz.underlying69 hi _ _ _ rfl HO.out rfl ?_)
              go_wp2
              go_roundg 1
              case measure => omega
              case rel => exact ⟨1, by decide, rfl, rfl, Lib.hid (by simpa using HO.out), HB.out⟩
            | some ad =>
              go_wp2_with (at_builtin; refine wpList_append_own _ rfl _ _ 69 rfl w.heap.size 135 i0 _ 2 24 Tryz.underlying69 hi hz0 hz1 hz2 rfl (by decide) _ _ _ rfl HO.out ad l.length c (l.flatMap cellsK) rfl ?p0 ?p1 ?p2 ?p3 ?p4 ?p5 ?_)
              case p0 => exact flat_len _ _ cellsK_len _
              case p1 =>
                intro j y hj
                rcases HA.out with h | h
                · subst h; simp at hj
                · cases h
                  have hc1 := HX.out j y hj
                  have hb1 := World.block_lt_of_cell? _ _ hc1
                  exact (HB.out.cell hb1).trans hc1
              case p2 => exact flat_oneK _
              case p3 => unfold maxLen; (try simp); omega
              case p4 => (try simp); omega
              case p5 => exact HB.out.size
              intro v' w4 hown hgrow _
              have HO4 : Hid (RowK w4 w.heap.size v' ([] ++ l)) := ontoK (by simpa using hown)
              have HB4 : Hid (Below w.heap.size w w4) := HB.out.grown hgrow HB.out.size (fun k hk => (World.ownsRow.lt HO.out k hk).1)
              clear hown hgrow
              go_wp2
              go_roundg 1
              case measure => omega
              case rel => exact ⟨1, by decide, rfl, rfl, Lib.hid (by simpa using HO4.out), HB4.out⟩
          · by_cases hk1 : k = 1
            · subst hk1
              simp only [if_true, if_neg (show ¬ 1 = 0 by decide)] at HO
              have e1 := (HB.out.cell (p := ⟨g, 1, none⟩) hgl).trans h1
              cases a' with
              | none =>
                obtain rfl : c' = 0 := hz' rfl
                have hl0 : m = [] := by
                  rcases HA'.out with h | h
                  · exact h
                  · cases h
                subst hl0
                go_wp2_with (at_builtin; refine wpList_append_own_none rfl _ _ 69 rfl w.heap.size 135 i0 2 Tryz.underlying69 hi _ _ _ rfl HO.out rfl ?_)
                go_wp2
                go_roundg 0
                case measure => omega
                case rel => exact ⟨2, by decide, rfl, rfl, Lib.hid (by simpa using HO.out), HB.out⟩
              | some ad =>
                go_wp2_with (at_builtin; refine wpList_append_own _ rfl _ _ 69 rfl w.heap.size 135 i0 _ 2 24 Tryz.underlying69 hi hz0 hz1 hz2 rfl (by decide) _ _ _ rfl HO.out ad m.length c' (m.flatMap cellsK) rfl ?p0 ?p1 ?p2 ?p3 ?p4 ?p5 ?_)
                case p0 => exact flat_len _ _ cellsK_len _
                case p1 =>
                  intro j y hj
                  rcases HA'.out with h | h
                  · subst h; simp at hj
                  · cases h
                    have hc1 := HX'.out j y hj
                    have hb1 := World.block_lt_of_cell? _ _ hc1
                    exact (HB.out.cell hb1).trans hc1
                case p2 => exact flat_oneK _
                case p3 => unfold maxLen; (try simp); omega
                case p4 => (try simp); omega
                case p5 => exact HB.out.size
                intro v' w4 hown hgrow _
                have HO4 : Hid (RowK w4 w.heap.size v' (l ++ m)) := ontoK (by simpa using hown)
                have HB4 : Hid (Below w.heap.size w w4) := HB.out.grown hgrow HB.out.size (fun k hk => (World.ownsRow.lt HO.out k hk).1)
                clear hown hgrow
                go_wp2
                go_roundg 0
                case measure => omega
                case rel => exact ⟨2, by decide, rfl, rfl, Lib.hid (by simpa using HO4.out), HB4.out⟩
            · obtain rfl : k = 2 := by omega
              simp only [if_neg (show ¬ 2 = 0 by decide), if_neg (show ¬ 2 = 1 by decide)] at HO
              go_wp2
              go_ret
              exact ⟨_, rfl, HO.out, HB.out⟩
end Go.Proofs.YtdgcdekgleegbaaGreat
/- The contract of slices.Equal, at two rows that are the same. -/
namespace Go.Proofs.YtdgcdekgleegbaaGreat
open Go.RowKit
open Sl (Cl Kd Nd Rn)
theorem equalC_any (v u : Value) (l : List Cl) (hll : l.length ≤ 100000) (w : World) (hv : SlC w v l) (hu : SlC w u l) :
    Calls Tryz.prog 66 #[v, u] w fun e w' => e = .returned (.bool true) ∧ Below w.heap.size w w' := by
  obtain ⟨a, b, o, c, rfl, ha, hx⟩ := hv
  obtain ⟨a', b', o', c', rfl, ha', hx'⟩ := hu
  have HX := Lib.hid hx
  have HA := Lib.hid ha
  have HX' := Lib.hid hx'
  have HA' := Lib.hid ha'
  clear ha hx ha' hx'
  have hlen : (l.length : Int) ≤ 100000 := by omega
  go_enter Tryz.func66, Tryz.ntmps66
  go_wp2
  go_loopg [13] l.length (fun n i wr => ∃ k : Nat, k ≤ l.length ∧ n = l.length - k ∧ i = .int .i64 k ∧ Hid (Below w.heap.size w wr))
  case atStart => exact ⟨0, Nat.zero_le _, rfl, rfl, Below.refl _ _⟩
  case round =>
    obtain ⟨k, hk, rfl, rfl, HB⟩ := hrel
    by_cases hlt : k < l.length
    · obtain ⟨x, hx⟩ := take_some l k hlt
      obtain ⟨e0, e1, e2, e3⟩ := HX.out k x hx
      obtain ⟨y0, y1, y2, y3⟩ := HX'.out k x hx
      have hblt : b < w.heap.size := World.block_lt_of_cell? _ _ e0
      have d0 := (HB.out.cell (p := ⟨b, o + k * 4, none⟩) hblt).trans e0
      have d1 := (HB.out.cell (p := ⟨b, o + k * 4 + 1, none⟩) hblt).trans e1
      have d2 := (HB.out.cell (p := ⟨b, o + k * 4 + 2, none⟩) hblt).trans e2
      have d3 := (HB.out.cell (p := ⟨b, o + k * 4 + 3, none⟩) hblt).trans e3
      have hblt' : b' < w.heap.size := World.block_lt_of_cell? _ _ y0
      have g0 := (HB.out.cell (p := ⟨b', o' + k * 4, none⟩) hblt').trans y0
      have g1 := (HB.out.cell (p := ⟨b', o' + k * 4 + 1, none⟩) hblt').trans y1
      have g2 := (HB.out.cell (p := ⟨b', o' + k * 4 + 2, none⟩) hblt').trans y2
      have g3 := (HB.out.cell (p := ⟨b', o' + k * 4 + 3, none⟩) hblt').trans y3
      obtain rfl : a = some ⟨b, o, none⟩ := by
        rcases HA.out with h | h
        · rw [h] at hlt; cases hlt
        · exact h
      obtain rfl : a' = some ⟨b', o', none⟩ := by
        rcases HA'.out with h | h
        · rw [h] at hlt; cases hlt
        · exact h
      have hki : (k : Int) < l.length := by omega
      have hk0 : (0 : Int) ≤ (k : Int) := by omega
      clear e0 e1 e2 e3 y0 y1 y2 y3 hx hblt hblt'
      go_wp2
      go_quiet (fail)
      go_wp2
      go_roundg (l.length - (k + 1))
      case measure => omega
      case rel => exact ⟨k + 1, by omega, rfl, by go_num, below_drewN HB.out _⟩
    · obtain rfl : k = l.length := by omega
      go_wp2
      go_ret
      exact ⟨rfl, HB.out⟩
end Go.Proofs.YtdgcdekgleegbaaGreat
/- The contract of slices.Equal, at two rows that are the same. -/
namespace Go.Proofs.YtdgcdekgleegbaaGreat
open Go.RowKit
open Sl (Cl Kd Nd Rn)
theorem equalK_any (v u : Value) (l : List Kd) (hll : l.length ≤ 100000) (w : World) (hv : SlK w v l) (hu : SlK w u l) :
    Calls Tryz.prog 67 #[v, u] w fun e w' => e = .returned (.bool true) ∧ Below w.heap.size w w' := by
  obtain ⟨a, b, o, c, rfl, ha, hx⟩ := hv
  obtain ⟨a', b', o', c', rfl, ha', hx'⟩ := hu
  have HX := Lib.hid hx
  have HA := Lib.hid ha
  have HX' := Lib.hid hx'
  have HA' := Lib.hid ha'
  clear ha hx ha' hx'
  have hlen : (l.length : Int) ≤ 100000 := by omega
  go_enter Tryz.func67, Tryz.ntmps67
  go_wp2
  go_loopg [13] l.length (fun n i wr => ∃ k : Nat, k ≤ l.length ∧ n = l.length - k ∧ i = .int .i64 k ∧ Hid (Below w.heap.size w wr))
  case atStart => exact ⟨0, Nat.zero_le _, rfl, rfl, Below.refl _ _⟩
  case round =>
    obtain ⟨k, hk, rfl, rfl, HB⟩ := hrel
    by_cases hlt : k < l.length
    · obtain ⟨x, hx⟩ := take_some l k hlt
      obtain ⟨e0, e1⟩ := HX.out k x hx
      obtain ⟨y0, y1⟩ := HX'.out k x hx
      have hblt : b < w.heap.size := World.block_lt_of_cell? _ _ e0
      have d0 := (HB.out.cell (p := ⟨b, o + k * 2, none⟩) hblt).trans e0
      have d1 := (HB.out.cell (p := ⟨b, o + k * 2 + 1, none⟩) hblt).trans e1
      have hblt' : b' < w.heap.size := World.block_lt_of_cell? _ _ y0
      have g0 := (HB.out.cell (p := ⟨b', o' + k * 2, none⟩) hblt').trans y0
      have g1 := (HB.out.cell (p := ⟨b', o' + k * 2 + 1, none⟩) hblt').trans y1
      obtain rfl : a = some ⟨b, o, none⟩ := by
        rcases HA.out with h | h
        · rw [h] at hlt; cases hlt
        · exact h
      obtain rfl : a' = some ⟨b', o', none⟩ := by
        rcases HA'.out with h | h
        · rw [h] at hlt; cases hlt
        · exact h
      have hki : (k : Int) < l.length := by omega
      have hk0 : (0 : Int) ≤ (k : Int) := by omega
      clear e0 e1 y0 y1 hx hblt hblt'
      go_wp2
      go_quiet (fail)
      go_wp2
      go_roundg (l.length - (k + 1))
      case measure => omega
      case rel => exact ⟨k + 1, by omega, rfl, by go_num, below_drewN HB.out _⟩
    · obtain rfl : k = l.length := by omega
      go_wp2
      go_ret
      exact ⟨rfl, HB.out⟩
end Go.Proofs.YtdgcdekgleegbaaGreat
