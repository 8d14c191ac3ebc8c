/- The document's own node: what it is of the program's; whether two are the same. -/
import Derived.Test.YtilccpklbaglpaaNd
import Derived.Test.YtilccpklbaglpaaSame
set_option maxRecDepth 100000
set_option maxHeartbeats 4000000
set_option linter.unusedVariables false
namespace Go.Proofs.Ytilccpklbaglpaa.Sl
def toR (n : Nd) : Rn := ⟨n.leaf, if n.leaf then n.cs else n.ks.map toC⟩
def fromN (leaf : Bool) (l : List Cl) : Nd := if leaf then ⟨true, l, []⟩ else ⟨false, [], l.map toK⟩
end Go.Proofs.Ytilccpklbaglpaa.Sl
namespace Go.Proofs.Ytilccpklbaglpaa
open Go.RowKit
open Sl (Cl Kd Nd Rn)
inductive RetR (n : Rn) (w : World) (e : Ending) (w' : World) : Prop
  | mk (v : Value) (he : e = .returned v) (hv : RnV w' v n) (hb : Below w.heap.size w w')
theorem rsame10_any (u v : Value) (a : Rn) (w : World) (hu : RnV w u a) (hv : RnV w v a) (hl : a.l.length ≤ 100000) :
    Calls Try.prog 46 #[u, v] w fun e w' => e = .returned (.bool true) ∧ Below w.heap.size w w' := by
  obtain ⟨vc, rfl, hc, hcc⟩ := hu
  obtain ⟨vc', rfl, hc', hcc'⟩ := hv
  have HC := Lib.hid (fun W (hW : Below w.heap.size w W) => same_any vc vc' a.l hl W (hc.below hW) (hc'.below hW))
  unfold rnV
  obtain ⟨a1, n1, c1, _, _, _⟩ := hcc
  obtain ⟨a3, n3, c3, _, _, _⟩ := hcc'
  clear hc hc' hl
  have HB : Hid (∀ o1 o2, Below w.heap.size w ((w.alloc o1).alloc o2)) := fun o1 o2 => ((Below.refl _ _).alloc (Nat.le_refl _) _).alloc (by simp) _
  generalize a.leaf = lf
  go_enter Try.func46, Try.ntmps46
  go_wp2_with (go_at_call 83; refine (HC.out _ (HB.out _ _)).mono ?_; rintro e w1 ⟨rfl, hb1⟩)
  go_ret
  exact ⟨rfl, (HB.out _ _).trans (hb1.mono (HB.out _ _).size)⟩
end Go.Proofs.Ytilccpklbaglpaa
