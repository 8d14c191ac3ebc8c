/- Rows that are handed in: of no things the address may be any. -/
import Derived.Test.YtpgaepilnbjhbaaLsAwkM
import Derived.SliceStrings
import Derived.ChangeSlices
import Derived.WalkKit
import Derived.ProofKit
import Derived.OpenShut
set_option maxRecDepth 100000
set_option maxHeartbeats 4000000
set_option linter.unusedVariables false
namespace Go.Proofs.Ytpgaepilnbjhbaa
open Go.ChangeShapes Go.WideShapes Go.ChangeAt Go.RowKit
open Ls (Txt Ln Ms)
structure SlW {α : Type} (f : α → List Value) (s : Nat) (w : World) (v : Value) (l : List α) : Prop where
  get : ∃ (a : Option Addr) (b o c : Nat), v = .slice a l.length c ∧ (l.length = 0 ∨ a = some ⟨b, o, none⟩) ∧ CellsAt f s w b o l
theorem SlW.below {α : Type} {f : α → List Value} {s : Nat} {w w' : World} {v : Value} {l : List α} (h : SlW f s w v l) (hb : Below w.heap.size w w') : SlW f s w' v l := by
  obtain ⟨a, b, o, c, h1, h2, h3⟩ := h.get
  exact ⟨a, b, o, c, h1, h2, h3.below rfl hb⟩
theorem SlW.slice {α : Type} {f : α → List Value} {s : Nat} {w : World} {v : Value} {l : List α} (h : SlW f s w v l) : ∃ a c, v = .slice a l.length c := by
  obtain ⟨a, _, _, c, h1, _⟩ := h.get
  exact ⟨a, c, h1⟩
theorem cells_str : Try.prog.cellsOf 9 = 1 := by kernel_rfl
theorem cells_u64 : Try.prog.cellsOf 32 = 1 := by kernel_rfl
theorem open_txts {H : Type} {enc : TypeId × Value → H} {W : World} {r : Reach} {b0 b1 : Nat} {sp : Nat → Bool} {held : Bool} {v : Value} {d : DataW H} {p : List MemPlace}
    (hv : Value.okWide Try.prog W r b0 57 v) (h : DataW.Trod enc Try.prog W b1 sp held 57 v d p) :
    ∃ l : List Txt, SlW cX 1 W v l ∧ ∀ x ∈ l, x.length ≤ maxLen := by
  obtain ⟨a0, len, cap, rfl⟩ := okWide_slice Try.underlying57 hv
  obtain ⟨fuel, hf⟩ := h
  rcases open_strings Try.underlying57 Try.underlying9 cells_str hf with ⟨hcs, _⟩ | ⟨a, len', cap', ss, hcs, _, hl, hm, hz, _, hcell, hws⟩
  · simp [Value.cells] at hcs
    obtain ⟨rfl, rfl, rfl⟩ := hcs
    exact ⟨[], ⟨none, 0, 0, 0, rfl, .inl rfl, fun j x hj => by simp at hj⟩, fun x hx => by simp at hx⟩
  · simp [Value.cells] at hcs
    obtain ⟨rfl, rfl, rfl⟩ := hcs
    have hlen : len ≤ ss.length := by rw [hz]; split <;> omega
    have hx : ((ss.take len).map ByteArray.toList).length = len := by rw [List.length_map, List.length_take]; omega
    by_cases h0 : len = 0
    · subst h0
      exact ⟨[], ⟨some a, 0, 0, cap, rfl, .inl rfl, fun j x hj => by simp at hj⟩, fun x hx => by simp at hx⟩
    · obtain ⟨b, off, spot⟩ := a
      have hspot : spot = none := by simpa [Addr.add] using World.cell?_spot (hcell 0 (by omega))
      subst hspot
      refine ⟨(ss.take len).map ByteArray.toList, ⟨some ⟨b, off, none⟩, b, off, cap, by rw [hx], .inr rfl, fun j x hj i u hu => ?_⟩, fun x hx => ?_⟩
      · have hjl : j < len := by
          have := (List.getElem?_eq_some_iff.1 hj).1
          omega
        rw [List.getElem?_map, List.getElem?_take_of_lt hjl, List.getElem?_eq_getElem (by omega)] at hj
        simp only [Option.map_some, Option.some.injEq] at hj
        have hc := hcell j (by omega)
        rw [add_plain, List.getD_eq_getElem?_getD, List.getElem?_eq_getElem (by omega)] at hc
        obtain rfl : i = 0 := by
          have := (List.getElem?_eq_some_iff.1 hu).1
          simp [cX] at this; omega
        simp [cX] at hu
        subst hu
        simp only [Nat.mul_one, Nat.add_zero]
        rw [hc, ← hj]
        simp [str, ByteArray.toList_eq]
      · obtain ⟨y, hy, rfl⟩ := List.mem_map.1 hx
        have := hws y (List.mem_of_mem_take hy)
        rw [ByteArray.toList_eq, Array.length_toList]
        exact this
theorem bnd64 {q : Int} (h : (Lit.int .u64 q).wf = true) : 0 ≤ q := by
  simp [Lit.wf, IntKind.min, IntKind.max, IntKind.signed, IntKind.bits] at h
  omega
theorem open_u64s {H : Type} {enc : TypeId × Value → H} {W : World} {r : Reach} {b0 b1 : Nat} {sp : Nat → Bool} {held : Bool} {v : Value} {d : DataW H} {p : List MemPlace}
    (hv : Value.okWide Try.prog W r b0 58 v) (h : DataW.Trod enc Try.prog W b1 sp held 58 v d p) :
    ∃ l : List Nat, SlW cU 1 W v l := by
  obtain ⟨a0, len, cap, rfl⟩ := okWide_slice Try.underlying58 hv
  obtain ⟨fuel, hf⟩ := h
  rcases open_ints Try.underlying58 Try.underlying32 cells_u64 hf with ⟨hcs, _⟩ | ⟨a, len', cap', zs, hcs, _, hl, hm, hz, _, hcell, hw⟩
  · simp [Value.cells] at hcs
    obtain ⟨rfl, rfl, rfl⟩ := hcs
    exact ⟨[], ⟨none, 0, 0, 0, rfl, .inl rfl, fun j p hj => by simp at hj⟩⟩
  · simp [Value.cells] at hcs
    obtain ⟨rfl, rfl, rfl⟩ := hcs
    have hlen : len ≤ zs.length := by rw [hz]; split <;> omega
    by_cases h0 : len = 0
    · subst h0
      exact ⟨[], ⟨some a, 0, 0, cap, rfl, .inl rfl, fun j p hj => by simp at hj⟩⟩
    · obtain ⟨b, off, spot⟩ := a
      have hspot : spot = none := by simpa [Addr.add] using World.cell?_spot (hcell 0 (by omega))
      subst hspot
      have hbd : ∀ i, i < len → 0 ≤ zs.getD i 0 := by
        intro i hi
        have hmem : zs.getD i 0 ∈ zs := by
          have hiz : i < zs.length := by omega
          rw [List.getD_eq_getElem?_getD, List.getElem?_eq_getElem hiz]
          exact List.getElem_mem _
        exact bnd64 (hw _ hmem)
      refine ⟨(List.range len).map fun i => (zs.getD i 0).toNat, ⟨some ⟨b, off, none⟩, b, off, cap, by simp, .inr rfl, fun j x hj i u hu => ?_⟩⟩
      have hjl : j < len := by
        have := (List.getElem?_eq_some_iff.1 hj).1
        simpa using this
      simp only [List.getElem?_map, List.getElem?_range hjl, Option.map_some, Option.some.injEq] at hj
      subst hj
      obtain rfl : i = 0 := by
        have := (List.getElem?_eq_some_iff.1 hu).1
        simp [cU] at this; omega
      simp [cU] at hu
      subst hu
      have e := hcell j (by omega)
      rw [add_plain] at e
      simp only [Nat.mul_one, Nat.add_zero]
      rw [e]
      have := hbd j hjl
      congr 2
      have h2 : zs.getD j 0 = zs[j]?.getD 0 := List.getD_eq_getElem?_getD ..
      omega
end Go.Proofs.Ytpgaepilnbjhbaa
