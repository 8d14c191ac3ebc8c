/- The contract of slices.Equal, at two rows that are the same. -/
import Derived.Test.YtilccpklbaglpaaNd
import Derived.Test.YtilccpklbaglpaaClnK
import Derived.Deep.LoopGhost
import Derived.BigQuiet
import Derived.Deep.QuietTactic
set_option maxRecDepth 100000
set_option maxHeartbeats 4000000
set_option linter.unusedVariables false
namespace Go.Proofs.Ytilccpklbaglpaa
open Go.RowKit
open Sl (Cl Kd Nd Rn)
theorem equalK_any (v u : Value) (l : List Kd) (hll : l.length ≤ 100000) (w : World) (hv : SlK w v l) (hu : SlK w u l) :
    Calls Try.prog 65 #[v, u] w fun e w' => e = .returned (.bool true) ∧ Below w.heap.size w w' := by
  obtain ⟨a, b, o, c, rfl, ha, hx⟩ := hv
  obtain ⟨a', b', o', c', rfl, ha', hx'⟩ := hu
  have HX := Lib.hid hx
  have HA := Lib.hid ha
  have HX' := Lib.hid hx'
  have HA' := Lib.hid ha'
  clear ha hx ha' hx'
  have hlen : (l.length : Int) ≤ 100000 := by omega
  go_enter Try.func65, Try.ntmps65
  go_wp2
  go_loopg [13] l.length (fun n i wr => ∃ k : Nat, k ≤ l.length ∧ n = l.length - k ∧ i = .int .i64 k ∧ Hid (Below w.heap.size w wr))
  case atStart => exact ⟨0, Nat.zero_le _, rfl, rfl, Below.refl _ _⟩
  case round =>
    obtain ⟨k, hk, rfl, rfl, HB⟩ := hrel
    by_cases hlt : k < l.length
    · obtain ⟨x, hx⟩ := take_some l k hlt
      obtain ⟨e0, e1⟩ := HX.out k x hx
      obtain ⟨y0, y1⟩ := HX'.out k x hx
      have hblt : b < w.heap.size := World.block_lt_of_cell? _ _ e0
      have d0 := (HB.out.cell (p := ⟨b, o + k * 2, none⟩) hblt).trans e0
      have d1 := (HB.out.cell (p := ⟨b, o + k * 2 + 1, none⟩) hblt).trans e1
      have hblt' : b' < w.heap.size := World.block_lt_of_cell? _ _ y0
      have g0 := (HB.out.cell (p := ⟨b', o' + k * 2, none⟩) hblt').trans y0
      have g1 := (HB.out.cell (p := ⟨b', o' + k * 2 + 1, none⟩) hblt').trans y1
      obtain rfl : a = some ⟨b, o, none⟩ := by
        rcases HA.out with h | h
        · rw [h] at hlt; cases hlt
        · exact h
      obtain rfl : a' = some ⟨b', o', none⟩ := by
        rcases HA'.out with h | h
        · rw [h] at hlt; cases hlt
        · exact h
      have hki : (k : Int) < l.length := by omega
      have hk0 : (0 : Int) ≤ (k : Int) := by omega
      clear e0 e1 y0 y1 hx hblt hblt'
      go_wp2
      go_quiet (fail)
      go_wp2
      go_roundg (l.length - (k + 1))
      case measure => omega
      case rel => exact ⟨k + 1, by omega, rfl, by go_num, below_drewN HB.out _⟩
    · obtain rfl : k = l.length := by omega
      go_wp2
      go_ret
      exact ⟨rfl, HB.out⟩
end Go.Proofs.Ytilccpklbaglpaa
