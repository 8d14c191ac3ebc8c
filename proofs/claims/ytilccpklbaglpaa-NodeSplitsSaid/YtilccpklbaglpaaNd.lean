/- Nodes as values, the document's and the program's. -/
import Derived.Test.YtilccpklbaglpaaNdBase
import Derived.Deep.RegionHeld3
set_option maxRecDepth 100000
set_option maxHeartbeats 4000000
set_option linter.unusedVariables false
namespace Go.Proofs.Ytilccpklbaglpaa.Sl
structure Nd where
  leaf : Bool
  cs : List Cl
  ks : List Kd
structure Rn where
  leaf : Bool
  l : List Cl
/-- The first cell's key. -/
def fkey {α : Type} (S : Sh α) : List α → List UInt8
  | [] => []
  | x :: _ => S.key x
def setK (k : List UInt8) : List Kd → List Kd
  | [] => []
  | x :: t => ⟨k, x.page⟩ :: t
def setC (k : List UInt8) : List Cl → List Cl
  | [] => []
  | x :: t => ⟨k, x.val, x.chain, x.long⟩ :: t
theorem setK_len (k : List UInt8) (l : List Kd) : (setK k l).length = l.length := by cases l <;> rfl
theorem setC_len (k : List UInt8) (l : List Cl) : (setC k l).length = l.length := by cases l <;> rfl
end Go.Proofs.Ytilccpklbaglpaa.Sl
namespace Go.Proofs.Ytilccpklbaglpaa
open Go.RowKit
open Sl (Cl Kd Nd Rn)
def ndV (b : Bool) (vc vk : Value) : Value := .agg #[.bool b, vc, vk]
def rnV (b : Bool) (vc : Value) : Value := .agg #[.bool b, vc]
inductive NdV (w : World) (v : Value) (n : Nd) : Prop
  | mk (vc vk : Value) (hv : v = ndV n.leaf vc vk) (hc : SlC w vc n.cs) (hcc : Cap vc) (hk : SlK w vk n.ks) (hkk : Cap vk)
inductive RnV (w : World) (v : Value) (n : Rn) : Prop
  | mk (vc : Value) (hv : v = rnV n.leaf vc) (hc : SlC w vc n.l) (hcc : Cap vc)
theorem NdV.below {w w' : World} {v : Value} {n : Nd} (h : NdV w v n) (hb : Below w.heap.size w w') : NdV w' v n := by
  obtain ⟨vc, vk, hv, hc, hcc, hk, hkk⟩ := h
  exact ⟨vc, vk, hv, hc.below hb, hcc, hk.below hb, hkk⟩
theorem RnV.below {w w' : World} {v : Value} {n : Rn} (h : RnV w v n) (hb : Below w.heap.size w w') : RnV w' v n := by
  obtain ⟨vc, hv, hc, hcc⟩ := h
  exact ⟨vc, hv, hc.below hb, hcc⟩
theorem cap_nil : Cap (.slice none 0 0) := ⟨none, 0, 0, Nat.le_refl _, Nat.zero_le _, fun _ => rfl⟩
theorem leaf_any (v : Value) (hv : Cap v) (w : World) : Calls Try.prog 47 #[v] w fun e w' => e = .returned (ndV true v (.slice none 0 0)) ∧ Below w.heap.size w w' := by
  obtain ⟨a, n, c, _, _, _⟩ := hv
  go_enter Try.func47, Try.ntmps47
  go_wp2
  refine bodyPost_ret_by (v := ndV true (.slice a n c) (.slice none 0 0)) ?_ rfl ⟨rfl, ?_⟩
  · simp [ndV, results, Try.results47, go_sem]
  · exact ((Below.refl _ _).alloc (Nat.le_refl _) _)
theorem branch_any (v : Value) (hv : Cap v) (w : World) : Calls Try.prog 50 #[v] w fun e w' => e = .returned (ndV false (.slice none 0 0) v) ∧ Below w.heap.size w w' := by
  obtain ⟨a, n, c, _, _, _⟩ := hv
  go_enter Try.func50, Try.ntmps50
  go_wp2
  refine bodyPost_ret_by (v := ndV false (.slice none 0 0) (.slice a n c)) ?_ rfl ⟨rfl, ?_⟩
  · simp [ndV, results, Try.results50, go_sem]
  · exact ((Below.refl _ _).alloc (Nat.le_refl _) _)
end Go.Proofs.Ytilccpklbaglpaa
