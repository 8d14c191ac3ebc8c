/- The contract of keyed: the first kid's key, turned in a row of one's own. -/
import Derived.Test.YtilccpklbaglpaaNd
set_option maxRecDepth 100000
set_option maxHeartbeats 4000000
set_option linter.unusedVariables false
namespace Go.Proofs.Ytilccpklbaglpaa
open Go.RowKit
open Sl (Cl Kd Nd Rn)
inductive KeyedK (v : Value) (l : List Kd) (B : Nat) (w : World) (e : Ending) (w' : World) : Prop
  | mk (he : e = .returned v) (hr : RowK w' B v l) (hb : Below B w w')
theorem keyed_any (v : Value) (l : List Kd) (k : List UInt8) (B : Nat) (w : World) (hv : RowK w B v l) (hB : B ≤ w.heap.size) :
    Calls Try.prog 53 #[v, .string (str k)] w (KeyedK v (Sl.setK k l) B w) := by
  have hv0 := hv
  obtain ⟨hl0, h1⟩ := hv
  rcases h1 with ⟨rfl, h0⟩ | ⟨g, cap, cur, rfl, hg, hb, hn, hm, hs, hc⟩
  · obtain rfl : l = [] := List.length_eq_zero_iff.1 h0
    go_enter Try.func53, Try.ntmps53
    go_wp2
    go_ret
    exact ⟨rfl, hv0, Below.refl _ _⟩
  · cases l with
    | nil =>
      go_enter Try.func53, Try.ntmps53
      go_wp2
      go_ret
      exact ⟨rfl, hv0, Below.refl _ _⟩
    | cons x t =>
      have HV := Lib.hid hv0
      have c0 : w.cell? ⟨g, 0, none⟩ = some (.string (str x.key)) := by
        have := World.ownsRow.cellAt hv0 0 (by simp)
        rw [this]; rfl
      have f0 : w.frozen? ⟨g, 0, none⟩ = false := World.ownsRow.frozenAt hv0 0
      have hlen : (0 : Int) < ((x :: t).length : Int) := by simp
      have HG := Lib.hid hg
      clear hl0 hv0 hb hn hm hs hc hg
      go_enter Try.func53, Try.ntmps53
      go_wp2
      go_ret
      refine ⟨rfl, ?_, ?_⟩
      · have := World.ownsRow.stored HV.out 0 (.string (str k))
        exact this.1
      · exact (Below.refl B w).setCell HG.out _
end Go.Proofs.Ytilccpklbaglpaa
