/- A row of texts and a row of 16-bit numbers that are handed in, as the walk takes them. -/
import Derived.Test.YtgkonmidgeanmaaInts
import Derived.WalkKit
import Derived.ProofKit
import Derived.OpenShut
import Derived.ShutString
import Derived.ChangeOld
import Derived.Carry
import Derived.SliceStrings
namespace Go.Proofs.Ytgkonmidgeanmaa
open Go.ChangeShapes Go.WideShapes Go.ChangeAt Go.RowKit
theorem cells9 : Try.prog.cellsOf 9 = 1 := by kernel_rfl
theorem cells27 : Try.prog.cellsOf 27 = 1 := by kernel_rfl
theorem open_texts {H : Type} {enc : TypeId × Value → H} {W : World} {r : Reach} {b0 b1 : Nat} {sp : Nat → Bool} {held : Bool} {v : Value} {d : DataW H} {p : List MemPlace}
    (hv : Value.okWide Try.prog W r b0 54 v) (h : DataW.Trod enc Try.prog W b1 sp held 54 v d p) :
    ∃ (a : Option Addr) (b o c : Nat) (xs : List ByteArray), v = .slice a xs.length c ∧ xs.length ≤ maxLen ∧ (xs = [] ∨ a = some ⟨b, o, none⟩) ∧ xs.length ≤ c ∧
      ∀ (j : Nat) (x : ByteArray), xs[j]? = some x → W.cell? ⟨b, o + j, none⟩ = some (.string x) ∧ x.size ≤ maxLen := by
  obtain ⟨a0, len, cap, rfl⟩ := okWide_slice Try.underlying54 hv
  obtain ⟨fuel, hf⟩ := h
  rcases open_strings Try.underlying54 Try.underlying9 cells9 hf with ⟨hcs, _⟩ | ⟨a, len', cap', ss, hcs, _, hl, hm, hz, _, hcell, hws⟩
  · simp [Value.cells] at hcs
    obtain ⟨rfl, rfl, rfl⟩ := hcs
    exact ⟨none, 0, 0, 0, [], rfl, Nat.zero_le _, .inl rfl, Nat.le_refl _, fun j x hj => by simp at hj⟩
  · simp [Value.cells] at hcs
    obtain ⟨rfl, rfl, rfl⟩ := hcs
    have hlen : len ≤ ss.length := by rw [hz]; split <;> omega
    have hx : (ss.take len).length = len := by rw [List.length_take]; omega
    by_cases h0 : len = 0
    · subst h0
      exact ⟨some a, 0, 0, cap, [], rfl, Nat.zero_le _, .inl rfl, Nat.zero_le _, fun j x hj => by simp at hj⟩
    · obtain ⟨b, off, spot⟩ := a
      have hspot : spot = none := by simpa [Addr.add] using World.cell?_spot (hcell 0 (by omega))
      subst hspot
      refine ⟨some ⟨b, off, none⟩, b, off, cap, ss.take len, by rw [hx], by rw [hx]; omega, .inr rfl, by rw [hx]; omega, fun j x hj => ?_⟩
      have hjl : j < len := by
        have := (List.getElem?_eq_some_iff.1 hj).1
        omega
      rw [List.getElem?_take_of_lt hjl] at hj
      have hc := hcell j (by omega)
      rw [add_plain, List.getD_eq_getElem?_getD, hj] at hc
      exact ⟨hc, hws x (List.mem_of_getElem? hj)⟩
theorem open_nums {H : Type} {enc : TypeId × Value → H} {W : World} {r : Reach} {b0 b1 : Nat} {sp : Nat → Bool} {held : Bool} {v : Value} {d : DataW H} {p : List MemPlace}
    (hv : Value.okWide Try.prog W r b0 53 v) (h : DataW.Trod enc Try.prog W b1 sp held 53 v d p) :
    ∃ (a : Option Addr) (b o c : Nat) (xs : List Nat), v = .slice a xs.length c ∧ xs.length ≤ maxLen ∧ (xs = [] ∨ a = some ⟨b, o, none⟩) ∧
      ∀ (j : Nat) (x : Nat), xs[j]? = some x → W.cell? ⟨b, o + j, none⟩ = some (.int .u16 (x : Nat)) ∧ x < 65536 := by
  obtain ⟨a0, len, cap, rfl⟩ := okWide_slice Try.underlying53 hv
  obtain ⟨fuel, hf⟩ := h
  rcases open_ints Try.underlying53 Try.underlying27 cells27 hf with ⟨hcs, _⟩ | ⟨a, len', cap', zs, hcs, _, hl, hm, hz, _, hcell, hwz⟩
  · simp [Value.cells] at hcs
    obtain ⟨rfl, rfl, rfl⟩ := hcs
    exact ⟨none, 0, 0, 0, [], rfl, Nat.zero_le _, .inl rfl, fun j x hj => by simp at hj⟩
  · simp [Value.cells] at hcs
    obtain ⟨rfl, rfl, rfl⟩ := hcs
    have hlen : len ≤ zs.length := by rw [hz]; split <;> omega
    have hx : ((zs.take len).map Int.toNat).length = len := by rw [List.length_map, List.length_take]; omega
    by_cases h0 : len = 0
    · subst h0
      exact ⟨some a, 0, 0, cap, [], rfl, Nat.zero_le _, .inl rfl, fun j x hj => by simp at hj⟩
    · obtain ⟨b, off, rfl, hc⟩ := ints_at hcell (by omega)
      refine ⟨some ⟨b, off, none⟩, b, off, cap, (zs.take len).map Int.toNat, by rw [hx], by rw [hx]; omega, .inr rfl, fun j x hj => ?_⟩
      have hjl : j < len := by
        have := (List.getElem?_eq_some_iff.1 hj).1
        omega
      rw [List.getElem?_map, List.getElem?_take_of_lt hjl, List.getElem?_eq_getElem (by omega)] at hj
      simp only [Option.map_some, Option.some.injEq] at hj
      have hb := bounds_u16 (hwz zs[j] (List.getElem_mem (by omega)))
      have hcj := hc j (by omega)
      rw [List.getD_eq_getElem?_getD, List.getElem?_eq_getElem (by omega)] at hcj
      subst hj
      refine ⟨?_, by omega⟩
      rw [hcj, Int.toNat_of_nonneg hb.1]
      rfl
end Go.Proofs.Ytgkonmidgeanmaa
