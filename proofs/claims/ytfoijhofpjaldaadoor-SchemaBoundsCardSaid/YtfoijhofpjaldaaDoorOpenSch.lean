/- A row of parts that is handed in, nil or at an address. -/
import Derived.Test.YtfoijhofpjaldaaDoorOpenParts
import Derived.Test.YtfoijhofpjaldaaDoorSchB
set_option maxRecDepth 100000
set_option maxHeartbeats 4000000
set_option linter.unusedVariables false
namespace Go.Proofs.YtfoijhofpjaldaaDoor
open Go.ChangeShapes Go.WideShapes Go.ChangeAt Go.RowKit Go.Deep
theorem form_parts {H : Type} {enc : TypeId × Value → H} {W : World} {r : Reach} {b0 b1 : Nat} {sp : Nat → Bool} {held : Bool} {v : Value} {d : DataW H} {p : List MemPlace}
    (hv : Value.okWide Tryd.prog W r b0 22 v) (h : DataW.Trod enc Tryd.prog W b1 sp held 22 v d p) :
    v = .slice none 0 0 ∨ ∃ p n c, v = .slice (some p) n c := by
  obtain ⟨a0, len, cap, rfl⟩ := okWide_slice Tryd.underlying22 hv
  obtain ⟨fuel, hf⟩ := h
  rcases open_slice Tryd.underlying22 hf with hcs | ⟨a, len', cap', m, n, D, Pl, hcs, _, hl, hm, hz, _, hcell⟩
  · have hcs := hcs.1
    simp [Value.cells] at hcs
    obtain ⟨rfl, rfl, rfl⟩ := hcs
    exact .inl rfl
  · simp [Value.cells] at hcs
    obtain ⟨rfl, rfl, rfl⟩ := hcs
    exact .inr ⟨_, _, _, rfl⟩
theorem Slin.ofSl {W : World} {v : Value} {l : List Ord.P} (h : Sl W v l) (hf : v = .slice none 0 0 ∨ ∃ p n c, v = .slice (some p) n c) : Slin W v l := by
  obtain ⟨a, b, o, c, rfl, ha, hx⟩ := h
  rcases hf with hf | ⟨p, n, c', hf⟩
  · simp only [Value.slice.injEq] at hf
    obtain ⟨rfl, h2, rfl⟩ := hf
    exact .inl ⟨List.length_eq_zero_iff.1 h2, by rw [h2]⟩
  · simp only [Value.slice.injEq] at hf
    obtain ⟨rfl, _, rfl⟩ := hf
    rcases ha with rfl | ha
    · exact .inr ⟨p, c, rfl, fun j u hj => by simp at hj⟩
    · obtain rfl := Option.some.inj ha
      refine .inr ⟨_, c, rfl, fun j u hj => ?_⟩
      have hjl : j < l.length * 3 := by
        have := (List.getElem?_eq_some_iff.1 hj).1
        rwa [flat_length] at this
      obtain ⟨q, hq⟩ : ∃ q, l[j / 3]? = some q := ⟨_, List.getElem?_eq_getElem (by omega)⟩
      have hat := flat_at l (j / 3) (j % 3) q hq (by omega)
      rw [show j / 3 * 3 + j % 3 = j by omega, hj] at hat
      obtain ⟨c0, c1, c2⟩ := hx (j / 3) q hq
      have hadd : ((⟨b, o, none⟩ : Addr).add j) = ⟨b, o + j, none⟩ := by simp [Addr.add]
      rw [hadd]
      have hr : j % 3 = 0 ∨ j % 3 = 1 ∨ j % 3 = 2 := by omega
      rcases hr with hr | hr | hr
      · rw [hr] at hat
        simp [cellsP] at hat
        rw [hat, show o + j = o + j / 3 * 3 by omega]; exact c0
      · rw [hr] at hat
        simp [cellsP] at hat
        rw [hat, show o + j = o + j / 3 * 3 + 1 by omega]; exact c1
      · rw [hr] at hat
        simp [cellsP] at hat
        rw [hat, show o + j = o + j / 3 * 3 + 2 by omega]; exact c2
end Go.Proofs.YtfoijhofpjaldaaDoor
