/- The law's own example of nodes. -/
import Derived.Test.YtilccpklbaglpaaNSMath
import Derived.Test.YtilccpklbaglpaaAwake
set_option maxRecDepth 100000
set_option maxHeartbeats 4000000
set_option linter.unusedVariables false
namespace Go.Proofs.Ytilccpklbaglpaa
open Go.RowKit
open Sl (Cl Kd Nd Rn)
def exN : Nd := ⟨true, [⟨[97], [], 0, 0⟩, ⟨[98], [], 0, 0⟩], []⟩
theorem exK : Sl.spK exN = [98] := by decide +kernel
theorem exA : (Sl.spA exN).cs.length = 1 ∧ (Sl.spB exN).cs.length = 1 ∧ str (Sl.spK exN) = ⟨#[98]⟩ ∧ (Sl.spA exN).leaf = true ∧ (Sl.spB exN).leaf = true := ⟨by decide +kernel, by decide +kernel, by rw [exK]; rfl, by decide +kernel, by decide +kernel⟩
theorem slTwo (W : World) (x y : Cl) : SlC (W.alloc (.cells #[.string (str x.key), .string (str x.val), .int .u32 x.chain, .int .u32 x.long, .string (str y.key), .string (str y.val), .int .u32 y.chain, .int .u32 y.long] 42)) (.slice (some ⟨W.heap.size, 0, none⟩) 2 2) [x, y] := by
  refine ⟨_, W.heap.size, 0, 2, rfl, .inr rfl, fun j z hj => ?_⟩
  have hj2 : j < 2 := (List.getElem?_eq_some_iff.1 hj).1
  match j, hj2 with
  | 0, _ =>
    simp at hj; subst hj
    exact ⟨World.cell?_alloc_new W _ _ 0, World.cell?_alloc_new W _ _ 1, World.cell?_alloc_new W _ _ 2, World.cell?_alloc_new W _ _ 3⟩
  | 1, _ =>
    simp at hj; subst hj
    exact ⟨World.cell?_alloc_new W _ _ 4, World.cell?_alloc_new W _ _ 5, World.cell?_alloc_new W _ _ 6, World.cell?_alloc_new W _ _ 7⟩
theorem nawake_any (w : World) : Calls Try.prog 12 #[] w fun e w' => e = .returned (.bool true) ∧ Below w.heap.size w w' := by
  have HS := Lib.hid (fun W v (hv : NdV W v exN) => split_any v exN W hv (by decide) (by decide) (by intro x hx; simp [exN] at hx; rcases hx with rfl | rfl <;> exact ⟨by decide, by decide⟩) (by intro x hx; simp [exN] at hx))
  have HV : Hid (NdV (w.alloc (.cells #[.string ⟨#[97]⟩, .string ⟨#[]⟩, .int .u32 0, .int .u32 0, .string ⟨#[98]⟩, .string ⟨#[]⟩, .int .u32 0, .int .u32 0] 42)) (.agg #[.bool true, .slice (some ⟨w.heap.size, 0, none⟩) 2 2, .slice none 0 0]) exN) :=
    ⟨_, _, rfl, slTwo w ⟨[97], [], 0, 0⟩ ⟨[98], [], 0, 0⟩, ⟨_, _, _, Nat.le_refl _, by decide, fun h => by cases h⟩, SlK.nil _, cap_nil⟩
  have HB : Hid (∀ o1, Below w.heap.size w (w.alloc o1)) := fun o1 => (Below.refl _ _).alloc (Nat.le_refl _) _
  go_enter Try.func12, Try.ntmps12
  go_wp2_with (go_at_call 27; refine (HS.out _ _ HV.out).mono ?_; rintro e w1 ⟨u, v, rfl, hu, hv, hb1⟩; obtain ⟨vc, vk, rfl, hc, hcc, hk, hkk⟩ := hu; obtain ⟨vc', vk', rfl, hc', hcc', hk', hkk'⟩ := hv; obtain ⟨a1, b1, o1, c1, rfl, _, _⟩ := hc; obtain ⟨a2, b2, o2, c2, rfl, _, _⟩ := hc'; obtain ⟨e1, e2, e3, e4, e5⟩ := exA; rw [e1, e2, e3, e4, e5]; unfold ndV; obtain ⟨a3, n3, c3, _, _, _⟩ := hkk; obtain ⟨a4, n4, c4, _, _, _⟩ := hkk'; have HB1 := Lib.hid ((HB.out _).trans (hb1.mono (HB.out _).size)); clear hk hk' hcc hcc' hb1)
  go_ret
  exact ⟨rfl, (HB1.out.alloc HB1.out.size _).alloc (Nat.le_trans HB1.out.size (by simp)) _⟩
end Go.Proofs.Ytilccpklbaglpaa
