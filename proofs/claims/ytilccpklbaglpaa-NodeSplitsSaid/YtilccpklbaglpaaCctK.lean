/- The contract of slices.Concat, at two rows. -/
import Derived.Test.YtilccpklbaglpaaNd
import Derived.Test.YtilccpklbaglpaaClnK
import Derived.Test.YtilccpklbaglpaaGrwK
import Derived.Deep.LoopGhost
import Derived.Laws.AppendOwnNone
set_option maxRecDepth 100000
set_option maxHeartbeats 4000000
set_option linter.unusedVariables false
namespace Go.Proofs.Ytilccpklbaglpaa
open Go.RowKit
open Sl (Cl Kd Nd Rn)
theorem ontoK {w1 : World} {B : Nat} {v' : Value} {l m : List Kd} (h : w1.ownsRow B 52 2 v' (l.length + m.length) (l.flatMap cellsK ++ m.flatMap cellsK)) : RowK w1 B v' (l ++ m) := by
  show w1.ownsRow _ _ _ _ _ _
  rw [List.flatMap_append, List.length_append]; exact h
theorem concatK_any (g : Nat) (u v : Value) (l m : List Kd) (hl : l.length ≤ 100000) (hm : m.length ≤ 100000) (w : World) (hu : SlK w u l) (hv : SlK w v m)
    (h0 : w.cell? ⟨g, 0, none⟩ = some u) (h1 : w.cell? ⟨g, 1, none⟩ = some v) (hcu : Cap u) (hcv : Cap v) :
    Calls Try.prog 62 #[.slice (some ⟨g, 0, none⟩) 2 2] w (OwnK (l ++ m) w) := by
  obtain ⟨i0, hi, hz0, hz1, hz2⟩ := info_parts info47
  obtain ⟨a, b, o, c, rfl, ha, hx⟩ := hu
  obtain ⟨a', b', o', c', rfl, ha', hx'⟩ := hv
  have hz := show a = none → c = 0 by cases hcu; assumption
  have hz' := show a' = none → c' = 0 by cases hcv; assumption
  clear hcu hcv
  have HX := Lib.hid (SlK.flat hx)
  have HA := Lib.hid ha
  have HX' := Lib.hid (SlK.flat hx')
  have HA' := Lib.hid ha'
  clear ha hx ha' hx'
  have hsz : l.length + m.length ≤ 200000 := by omega
  have HG := Lib.hid (fun W => growK_any (l.length + m.length) hsz W)
  have hgl : g < w.heap.size := World.block_lt_of_cell? _ _ h0
  go_enter Try.func62, Try.ntmps62
  go_wp2
  go_loopg [3, 11] 2 (fun n s i wr => ∃ k : Nat, k ≤ 2 ∧ n = 2 - k ∧ i = .int .i64 k ∧ s = .int .i64 ((if k = 0 then 0 else if k = 1 then l.length else l.length + m.length : Nat) : Int) ∧ w = wr)
  case atStart => exact ⟨0, by decide, rfl, rfl, rfl, rfl⟩
  case round =>
    obtain ⟨k, hk, rfl, rfl, rfl, rfl⟩ := hrel
    by_cases hk0 : k = 0
    · subst hk0
      simp only [if_true]
      go_wp2
      go_roundg 1
      case measure => omega
      case rel => exact ⟨1, by decide, rfl, rfl, by simp, rfl⟩
    · by_cases hk1 : k = 1
      · subst hk1
        simp only [if_true, if_neg (show ¬ 1 = 0 by decide)]
        go_wp2
        go_roundg 0
        case measure => omega
        case rel => exact ⟨2, by decide, rfl, rfl, by simp, rfl⟩
      · obtain rfl : k = 2 := by omega
        simp only [if_neg (show ¬ 2 = 0 by decide), if_neg (show ¬ 2 = 1 by decide)]
        go_wp2_with (go_at_call 98; refine (HG.out _).mono ?_; rintro e w1 ⟨v1, rfl, hr1, hb1⟩; have HR1 := Lib.hid hr1; have HB1 := Lib.hid hb1; clear hr1 hb1)
        clear HG
        generalize ((l.length : Int) + (m.length : Int)) = T
        go_loopg [6, 27] 2 (fun n s i wr => ∃ k : Nat, k ≤ 2 ∧ n = 2 - k ∧ i = .int .i64 k ∧ Hid (RowK wr w.heap.size s (if k = 0 then [] else if k = 1 then l else l ++ m)) ∧ Hid (Below w.heap.size w wr))
        case atStart => exact ⟨0, by decide, rfl, rfl, HR1.out, HB1.out⟩
        case round =>
          obtain ⟨k, hk, rfl, rfl, HO, HB⟩ := hrel
          by_cases hk0 : k = 0
          · subst hk0
            simp only [if_true] at HO
            have e0 := (HB.out.cell (p := ⟨g, 0, none⟩) hgl).trans h0
            cases a with
            | none =>
              obtain rfl : c = 0 := hz rfl
              have hl0 : l = [] := by
                rcases HA.out with h | h
                · exact h
                · cases h
              subst hl0
              go_wp2_with (at_builtin; refine wpList_append_own_none rfl _ _ 44 rfl w.heap.size 52 i0 2 Try.underlying44 hi _ _ _ rfl HO.out rfl ?_)
              go_wp2
              go_roundg 1
              case measure => omega
              case rel => exact ⟨1, by decide, rfl, rfl, Lib.hid (by simpa using HO.out), HB.out⟩
            | some ad =>
              go_wp2_with (at_builtin; refine wpList_append_own _ rfl _ _ 44 rfl w.heap.size 52 i0 _ 2 24 Try.underlying44 hi hz0 hz1 hz2 rfl (by decide) _ _ _ rfl HO.out ad l.length c (l.flatMap cellsK) rfl ?p0 ?p1 ?p2 ?p3 ?p4 ?p5 ?_)
              case p0 => exact flat_len _ _ cellsK_len _
              case p1 =>
                intro j y hj
                rcases HA.out with h | h
                · subst h; simp at hj
                · cases h
                  have hc1 := HX.out j y hj
                  have hb1 := World.block_lt_of_cell? _ _ hc1
                  exact (HB.out.cell hb1).trans hc1
              case p2 => exact flat_oneK _
              case p3 => unfold maxLen; (try simp); omega
              case p4 => (try simp); omega
              case p5 => exact HB.out.size
              intro v' w4 hown hgrow _
              have HO4 : Hid (RowK w4 w.heap.size v' ([] ++ l)) := ontoK (by simpa using hown)
              have HB4 : Hid (Below w.heap.size w w4) := HB.out.grown hgrow HB.out.size (fun k hk => (World.ownsRow.lt HO.out k hk).1)
              clear hown hgrow
              go_wp2
              go_roundg 1
              case measure => omega
              case rel => exact ⟨1, by decide, rfl, rfl, Lib.hid (by simpa using HO4.out), HB4.out⟩
          · by_cases hk1 : k = 1
            · subst hk1
              simp only [if_true, if_neg (show ¬ 1 = 0 by decide)] at HO
              have e1 := (HB.out.cell (p := ⟨g, 1, none⟩) hgl).trans h1
              cases a' with
              | none =>
                obtain rfl : c' = 0 := hz' rfl
                have hl0 : m = [] := by
                  rcases HA'.out with h | h
                  · exact h
                  · cases h
                subst hl0
                go_wp2_with (at_builtin; refine wpList_append_own_none rfl _ _ 44 rfl w.heap.size 52 i0 2 Try.underlying44 hi _ _ _ rfl HO.out rfl ?_)
                go_wp2
                go_roundg 0
                case measure => omega
                case rel => exact ⟨2, by decide, rfl, rfl, Lib.hid (by simpa using HO.out), HB.out⟩
              | some ad =>
                go_wp2_with (at_builtin; refine wpList_append_own _ rfl _ _ 44 rfl w.heap.size 52 i0 _ 2 24 Try.underlying44 hi hz0 hz1 hz2 rfl (by decide) _ _ _ rfl HO.out ad m.length c' (m.flatMap cellsK) rfl ?p0 ?p1 ?p2 ?p3 ?p4 ?p5 ?_)
                case p0 => exact flat_len _ _ cellsK_len _
                case p1 =>
                  intro j y hj
                  rcases HA'.out with h | h
                  · subst h; simp at hj
                  · cases h
                    have hc1 := HX'.out j y hj
                    have hb1 := World.block_lt_of_cell? _ _ hc1
                    exact (HB.out.cell hb1).trans hc1
                case p2 => exact flat_oneK _
                case p3 => unfold maxLen; (try simp); omega
                case p4 => (try simp); omega
                case p5 => exact HB.out.size
                intro v' w4 hown hgrow _
                have HO4 : Hid (RowK w4 w.heap.size v' (l ++ m)) := ontoK (by simpa using hown)
                have HB4 : Hid (Below w.heap.size w w4) := HB.out.grown hgrow HB.out.size (fun k hk => (World.ownsRow.lt HO.out k hk).1)
                clear hown hgrow
                go_wp2
                go_roundg 0
                case measure => omega
                case rel => exact ⟨2, by decide, rfl, rfl, Lib.hid (by simpa using HO4.out), HB4.out⟩
            · obtain rfl : k = 2 := by omega
              simp only [if_neg (show ¬ 2 = 0 by decide), if_neg (show ¬ 2 = 1 by decide)] at HO
              go_wp2
              go_ret
              exact ⟨_, rfl, HO.out, HB.out⟩
end Go.Proofs.Ytilccpklbaglpaa
