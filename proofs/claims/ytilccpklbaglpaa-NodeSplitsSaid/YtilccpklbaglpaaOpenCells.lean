/- A row of cells that is handed in, as the walk takes it. -/
import Derived.Test.YtilccpklbaglpaaRows2
import Derived.ProofKit
import Derived.OpenShut
import Derived.ShutString
import Derived.ChangeOld
import Derived.Carry
import Derived.Deep.Slices
set_option maxRecDepth 100000
set_option maxHeartbeats 4000000
set_option linter.unusedVariables false
namespace Go.Proofs.Ytilccpklbaglpaa
open Go.ChangeShapes Go.WideShapes Go.ChangeAt Go.RowKit Go.Deep
open Sl (Cl Kd)
theorem cells42 : Try.prog.cellsOf 42 = 4 := by kernel_rfl
theorem cellsS : Try.prog.cellsOf 9 = 1 ∧ Try.prog.cellsOf 34 = 1 := ⟨by kernel_rfl, by kernel_rfl⟩
instance : Inhabited Cl := ⟨⟨[], [], 0, 0⟩⟩
theorem list4 {α : Type} (l : List α) (h : l.length = 4) : ∃ a b c d, l = [a, b, c, d] := by
  rcases l with _ | ⟨a, _ | ⟨b, _ | ⟨c, _ | ⟨d, _ | ⟨e, l⟩⟩⟩⟩⟩
  all_goals first | (cases h; done) | exact ⟨_, _, _, _, rfl⟩ | (simp at h)
set_option maxRecDepth 100000 in
theorem open_cells {H : Type} {enc : TypeId × Value → H} {W : World} {r : Reach} {b0 b1 : Nat} {sp : Nat → Bool} {held : Bool} {v : Value} {d : DataW H} {p : List MemPlace}
    (hv : Value.okWide Try.prog W r b0 40 v) (h : DataW.Trod enc Try.prog W b1 sp held 40 v d p) :
    ∃ l : List Cl, l.length ≤ maxLen ∧ (∀ x ∈ l, okC x) ∧ SlC W v l := by
  obtain ⟨a0, len, cap, rfl⟩ := okWide_slice Try.underlying40 hv
  obtain ⟨fuel, hf⟩ := h
  rcases open_slice Try.underlying40 hf with hcs | ⟨a, len', cap', m, n, D, Pl, hcs, _, hl, hm, hz, _, hcell⟩
  · have hcs := hcs.1
    simp [Value.cells] at hcs
    obtain ⟨rfl, rfl, rfl⟩ := hcs
    exact ⟨[], Nat.zero_le _, fun p hp => by simp at hp, none, 0, 0, 0, rfl, .inl rfl, fun j p hj => by simp at hj⟩
  · simp [Value.cells] at hcs
    obtain ⟨rfl, rfl, rfl⟩ := hcs
    have hlen : len ≤ m := by rw [hz]; split <;> omega
    have each : ∀ i, i < len → ∃ x : Cl, okC x ∧ W.cell? (a.add (i * 4)) = some (.string (str x.key)) ∧ W.cell? (a.add (i * 4 + 1)) = some (.string (str x.val)) ∧ W.cell? (a.add (i * 4 + 2)) = some (.int .u32 x.chain) ∧ W.cell? (a.add (i * 4 + 3)) = some (.int .u32 x.long) := by
      intro i hi
      obtain ⟨cs', h1, h2⟩ := hcell i (by omega)
      rw [cells42] at h1
      obtain ⟨_, hlen', hcc⟩ := World.cells?_some h1
      obtain ⟨xs, k, hk, hxy, _, hxl, hf'⟩ := DataW.trod_struct Try.underlying42 h2
      obtain ⟨v0, v1, v2, v3, rfl⟩ := list4 cs' hlen'
      obtain ⟨y0, y1, y2, y3, rfl⟩ := list4 xs hxl
      have g0 : DataW.trod enc Try.prog W b1 sp held k 9 ([v0, v1, v2, v3].drop 0 |>.take (Try.prog.cellsOf 9)) = some y0 := hf' 0 _ rfl
      have g1 : DataW.trod enc Try.prog W b1 sp held k 9 ([v0, v1, v2, v3].drop 1 |>.take (Try.prog.cellsOf 9)) = some y1 := hf' 1 _ rfl
      have g2 : DataW.trod enc Try.prog W b1 sp held k 34 ([v0, v1, v2, v3].drop 2 |>.take (Try.prog.cellsOf 34)) = some y2 := hf' 2 _ rfl
      have g3 : DataW.trod enc Try.prog W b1 sp held k 34 ([v0, v1, v2, v3].drop 3 |>.take (Try.prog.cellsOf 34)) = some y3 := hf' 3 _ rfl
      rw [cellsS.1] at g0 g1
      rw [cellsS.2] at g2 g3
      obtain ⟨s, hs, _, _⟩ := DataW.trod_string Try.underlying9 g0
      obtain ⟨t, ht, _, _⟩ := DataW.trod_string Try.underlying9 g1
      obtain ⟨q, hq, _, wq⟩ := DataW.trod_int Try.underlying34 g2
      obtain ⟨u, hu, _, wu⟩ := DataW.trod_int Try.underlying34 g3
      have c0 := hcc 0 (by omega)
      have c1 := hcc 1 (by omega)
      have c2 := hcc 2 (by omega)
      have c3 := hcc 3 (by omega)
      rw [add_add] at c0 c1 c2 c3
      have hs' : v0 = .string s := by simpa using hs
      have ht' : v1 = .string t := by simpa using ht
      have hq' : v2 = .int .u32 q := by simpa using hq
      have hu' : v3 = .int .u32 u := by simpa using hu
      obtain ⟨h3, h4⟩ := bounds_u32 wq
      obtain ⟨h5, h6⟩ := bounds_u32 wu
      obtain ⟨N, rfl⟩ := Int.eq_ofNat_of_zero_le h3
      obtain ⟨M, rfl⟩ := Int.eq_ofNat_of_zero_le h5
      refine ⟨⟨s.data.toList, t.data.toList, N, M⟩, ⟨by show N < _; omega, by show M < _; omega⟩, ?_, ?_, ?_, ?_⟩
      · rw [str_eq, ← hs']; simpa using c0
      · rw [str_eq, ← ht']; simpa using c1
      · rw [← hq']; simpa using c2
      · rw [← hu']; simpa using c3
    by_cases h0 : len = 0
    · subst h0
      exact ⟨[], Nat.zero_le _, fun p hp => by simp at hp, some a, 0, 0, cap, rfl, .inl rfl, fun j p hj => by simp at hj⟩
    · obtain ⟨b, off, spot⟩ := a
      obtain ⟨p0, _, hsp, _⟩ := each 0 (by omega)
      have hspot : spot = none := by simpa [Addr.add] using World.cell?_spot hsp
      subst hspot
      obtain ⟨f, hfx⟩ := choose_lt each
      refine ⟨(List.range len).map f, by simp; omega, ?_, some ⟨b, off, none⟩, b, off, cap, by simp, .inr rfl, fun j p hj => ?_⟩
      · intro p hp
        obtain ⟨i, hi, rfl⟩ := List.mem_map.1 hp
        exact (hfx i (List.mem_range.1 hi)).1
      · have hjl : j < len := by
          have := (List.getElem?_eq_some_iff.1 hj).1
          simpa using this
        simp [hjl] at hj
        subst hj
        obtain ⟨_, c0, c1, c2, c3⟩ := hfx j hjl
        rw [add_plain] at c0 c1 c2 c3
        refine ⟨c0, ?_, ?_, ?_⟩
        · rw [Nat.add_assoc]; exact c1
        · rw [Nat.add_assoc]; exact c2
        · rw [Nat.add_assoc]; exact c3
end Go.Proofs.Ytilccpklbaglpaa
