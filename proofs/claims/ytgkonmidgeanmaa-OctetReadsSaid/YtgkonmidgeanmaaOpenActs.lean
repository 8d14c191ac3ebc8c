/- A row of acts (two numbers each) that is handed in, as the walk takes it. -/
import Derived.Test.YtgkonmidgeanmaaRows
import Derived.WalkKit
import Derived.ProofKit
import Derived.OpenShut
import Derived.ShutString
import Derived.ChangeOld
import Derived.Carry
import Derived.Deep.SlicePairs
namespace Go.Proofs.Ytgkonmidgeanmaa
open Go.ChangeShapes Go.WideShapes Go.ChangeAt Go.RowKit Go.Deep
theorem cells40 : Try.prog.cellsOf 40 = 2 := by kernel_rfl
theorem cells3 : Try.prog.cellsOf 3 = 1 := by kernel_rfl
theorem open_acts {H : Type} {enc : TypeId × Value → H} {W : World} {r : Reach} {b0 b1 : Nat} {sp : Nat → Bool} {held : Bool} {v : Value} {d : DataW H} {p : List MemPlace}
    (hv : Value.okWide Try.prog W r b0 33 v) (h : DataW.Trod enc Try.prog W b1 sp held 33 v d p) :
    ∃ (a : Option Addr) (b o c : Nat) (xs : List (Int × Int)), v = .slice a xs.length c ∧ (xs = [] ∨ a = some ⟨b, o, none⟩) ∧
      ∀ (j : Nat) x, xs[j]? = some x → W.cell? ⟨b, o + j * 2, none⟩ = some (.int .i64 x.1) ∧ W.cell? ⟨b, o + j * 2 + 1, none⟩ = some (.int .i64 x.2) ∧ x.2 < 9223372036854775808 := by
  obtain ⟨a0, len, cap, rfl⟩ := okWide_slice Try.underlying33 hv
  obtain ⟨fuel, hf⟩ := h
  rcases open_slice_pairs Try.underlying33 Try.underlying40 cells40 rfl rfl cells3 cells3 hf with ⟨hcs, _⟩ | ⟨a, len', cap', m, n, V0, V1, D0, D1, P0, P1, hcs, _, hl, hm, hz, _, hcell⟩
  · simp [Value.cells] at hcs
    obtain ⟨rfl, rfl, rfl⟩ := hcs
    exact ⟨none, 0, 0, 0, [], rfl, .inl rfl, fun j x hj => by simp at hj⟩
  · simp [Value.cells] at hcs
    obtain ⟨rfl, rfl, rfl⟩ := hcs
    have hlen : len ≤ m := by rw [hz]; split <;> omega
    by_cases h0 : len = 0
    · subst h0
      exact ⟨some a, 0, 0, cap, [], rfl, .inl rfl, fun j x hj => by simp at hj⟩
    · obtain ⟨b, off, spot⟩ := a
      have hspot : spot = none := by simpa [Addr.add] using World.cell?_spot (hcell 0 (by omega)).1
      subst hspot
      let num : Value → Int := fun | .int _ x => x | _ => 0
      refine ⟨some ⟨b, off, none⟩, b, off, cap, (List.range len).map fun i => (num (V0 i), num (V1 i)), by simp, .inr rfl, fun j x hj => ?_⟩
      have hjl : j < len := by
        have := (List.getElem?_eq_some_iff.1 hj).1
        simpa using this
      simp [hjl] at hj
      subst hj
      obtain ⟨e0, e1, t0, t1⟩ := hcell j (by omega)
      obtain ⟨x0, hx0, _, _⟩ := DataW.trod_int Try.underlying3 t0
      obtain ⟨x1, hx1, _, w1⟩ := DataW.trod_int Try.underlying3 t1
      simp only [List.cons.injEq, and_true] at hx0 hx1
      rw [add_plain] at e0 e1
      rw [hx0] at e0
      rw [hx1] at e1
      refine ⟨?_, ?_, ?_⟩
      · rw [e0, hx0]
      · rw [Nat.add_assoc, e1, hx1]
      · rw [hx1]; have := (bounds_i64 w1).2; show x1 < _; omega
end Go.Proofs.Ytgkonmidgeanmaa
