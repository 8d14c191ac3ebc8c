/- A row of parts that is handed in, as the walk takes it. -/
import Derived.Test.YtfoijhofpjaldaaDoorParts
import Derived.ProofKit
import Derived.OpenShut
import Derived.ShutString
import Derived.ChangeOld
import Derived.Carry
import Derived.Deep.Slices
set_option maxRecDepth 100000
set_option maxHeartbeats 4000000
set_option linter.unusedVariables false
namespace Go.Proofs.YtfoijhofpjaldaaDoor
open Go.ChangeShapes Go.WideShapes Go.ChangeAt Go.RowKit Go.Deep
theorem cells41 : Tryd.prog.cellsOf 30 = 3 := by kernel_rfl
theorem cellsS : Tryd.prog.cellsOf 4 = 1 ∧ Tryd.prog.cellsOf 25 = 1 ∧ Tryd.prog.cellsOf 9 = 1 := ⟨by kernel_rfl, by kernel_rfl, by kernel_rfl⟩
instance : Inhabited Ord.P := ⟨⟨false, 0, []⟩⟩
theorem list3 {α : Type} (l : List α) (h : l.length = 3) : ∃ a b c, l = [a, b, c] := by
  rcases l with _ | ⟨a, _ | ⟨b, _ | ⟨c, _ | ⟨d, l⟩⟩⟩⟩
  all_goals first | (cases h; done) | exact ⟨_, _, _, rfl⟩ | (simp at h)
theorem open_parts {H : Type} {enc : TypeId × Value → H} {W : World} {r : Reach} {b0 b1 : Nat} {sp : Nat → Bool} {held : Bool} {v : Value} {d : DataW H} {p : List MemPlace}
    (hv : Value.okWide Tryd.prog W r b0 22 v) (h : DataW.Trod enc Tryd.prog W b1 sp held 22 v d p) :
    ∃ l : List Ord.P, l.length ≤ maxLen ∧ (∀ p ∈ l, p.n < 18446744073709551616) ∧ Sl W v l := by
  obtain ⟨a0, len, cap, rfl⟩ := okWide_slice Tryd.underlying22 hv
  obtain ⟨fuel, hf⟩ := h
  rcases open_slice Tryd.underlying22 hf with hcs | ⟨a, len', cap', m, n, D, Pl, hcs, _, hl, hm, hz, _, hcell⟩
  · have hcs := hcs.1
    simp [Value.cells] at hcs
    obtain ⟨rfl, rfl, rfl⟩ := hcs
    exact ⟨[], Nat.zero_le _, fun p hp => by simp at hp, none, 0, 0, 0, rfl, .inl rfl, fun j p hj => by simp at hj⟩
  · simp [Value.cells] at hcs
    obtain ⟨rfl, rfl, rfl⟩ := hcs
    have hlen : len ≤ m := by rw [hz]; split <;> omega
    have each : ∀ i, i < len → ∃ p : Ord.P, p.n < 18446744073709551616 ∧ W.cell? (a.add (i * 3)) = some (.bool p.t) ∧ W.cell? (a.add (i * 3 + 1)) = some (.int .u64 p.n) ∧ W.cell? (a.add (i * 3 + 2)) = some (.string (str p.s)) := by
      intro i hi
      obtain ⟨cs', h1, h2⟩ := hcell i (by omega)
      rw [cells41] at h1
      obtain ⟨_, hlen', hcc⟩ := World.cells?_some h1
      obtain ⟨xs, k, hk, hxy, _, hxl, hf'⟩ := DataW.trod_struct Tryd.underlying30 h2
      obtain ⟨v0, v1, v2, rfl⟩ := list3 cs' hlen'
      obtain ⟨y0, y1, y2, rfl⟩ := list3 xs hxl
      have g0 : DataW.trod enc Tryd.prog W b1 sp held k 4 ([v0, v1, v2].drop 0 |>.take (Tryd.prog.cellsOf 4)) = some y0 := hf' 0 _ rfl
      have g1 : DataW.trod enc Tryd.prog W b1 sp held k 25 ([v0, v1, v2].drop 1 |>.take (Tryd.prog.cellsOf 25)) = some y1 := hf' 1 _ rfl
      have g2 : DataW.trod enc Tryd.prog W b1 sp held k 9 ([v0, v1, v2].drop 2 |>.take (Tryd.prog.cellsOf 9)) = some y2 := hf' 2 _ rfl
      rw [cellsS.1] at g0
      rw [cellsS.2.1] at g1
      rw [cellsS.2.2] at g2
      obtain ⟨t, ht, _⟩ := DataW.trod_bool Tryd.underlying4 g0
      obtain ⟨q, hq, _, wq⟩ := DataW.trod_int Tryd.underlying25 g1
      obtain ⟨s, hs, _, _⟩ := DataW.trod_string Tryd.underlying9 g2
      have c0 := hcc 0 (by omega)
      have c1 := hcc 1 (by omega)
      have c2 := hcc 2 (by omega)
      rw [add_add] at c0 c1 c2
      have ht' : v0 = .bool t := by simpa using ht
      have hq' : v1 = .int .u64 q := by simpa using hq
      have hs' : v2 = .string s := by simpa using hs
      obtain ⟨h3, h4⟩ := bounds_u64 wq
      obtain ⟨N, rfl⟩ := Int.eq_ofNat_of_zero_le h3
      refine ⟨⟨t, N, s.data.toList⟩, by show N < _; omega, ?_, ?_, ?_⟩
      · rw [← ht']; simpa using c0
      · rw [← hq']; simpa using c1
      · rw [str_eq, ← hs']; simpa using c2
    by_cases h0 : len = 0
    · subst h0
      exact ⟨[], Nat.zero_le _, fun p hp => by simp at hp, some a, 0, 0, cap, rfl, .inl rfl, fun j p hj => by simp at hj⟩
    · obtain ⟨b, off, spot⟩ := a
      obtain ⟨p0, _, hsp, _⟩ := each 0 (by omega)
      have hspot : spot = none := by simpa [Addr.add] using World.cell?_spot hsp
      subst hspot
      obtain ⟨f, hfx⟩ := choose_lt each
      refine ⟨(List.range len).map f, by simp; omega, ?_, some ⟨b, off, none⟩, b, off, cap, by simp, .inr rfl, fun j p hj => ?_⟩
      · intro p hp
        obtain ⟨i, hi, rfl⟩ := List.mem_map.1 hp
        exact (hfx i (List.mem_range.1 hi)).1
      · have hjl : j < len := by
          have := (List.getElem?_eq_some_iff.1 hj).1
          simpa using this
        simp [hjl] at hj
        subst hj
        obtain ⟨_, c0, c1, c2⟩ := hfx j hjl
        rw [add_plain] at c0 c1 c2
        refine ⟨c0, ?_, ?_⟩
        · rw [Nat.add_assoc]; exact c1
        · rw [Nat.add_assoc]; exact c2
end Go.Proofs.YtfoijhofpjaldaaDoor
