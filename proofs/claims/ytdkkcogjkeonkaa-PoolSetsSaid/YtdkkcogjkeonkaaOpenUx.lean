/- Numbers and acts that are handed in, opened. -/
import Derived.Test.YtdkkcogjkeonkaaUxLaw
import Derived.ProofKit
import Derived.OpenShut
import Derived.Lib.SmallJoins
import Derived.WalkKit
import Derived.SliceStrings
import Derived.ChangeArms
import Derived.ChangeSlices
import Derived.ChangeOld
import Derived.Carry
import Derived.Deep.Slices
set_option maxRecDepth 100000
set_option maxHeartbeats 4000000
set_option linter.unusedVariables false
namespace Go.Proofs.Ytdkkcogjkeonkaa
open Go.Joins Go.ChangeShapes Go.WideShapes Go.ChangeAt Go.RowKit Go.Deep
theorem bnd_u32 {q : Int} (h : (Lit.int .u32 q).wf = true) : 0 ≤ q ∧ q < 4294967296 := by
  simp [Lit.wf, IntKind.min, IntKind.max, IntKind.signed, IntKind.bits] at h
  omega
theorem cells_u32 : Try.prog.cellsOf 24 = 1 := by kernel_rfl
theorem open_nums {H : Type} {enc : TypeId × Value → H} {W : World} {r : Reach} {b0 b1 : Nat} {sp : Nat → Bool} {held : Bool} {v : Value} {d : DataW H} {p : List MemPlace}
    (hv : Value.okWide Try.prog W r b0 22 v) (h : DataW.Trod enc Try.prog W b1 sp held 22 v d p) :
    ∃ l : List Nat, SlV W v l := by
  obtain ⟨a0, len, cap, rfl⟩ := okWide_slice Try.underlying22 hv
  obtain ⟨fuel, hf⟩ := h
  rcases open_ints Try.underlying22 Try.underlying24 cells_u32 hf with ⟨hcs, _⟩ | ⟨a, len', cap', zs, hcs, _, hl, hm, hz, _, hcell, hw⟩
  · simp [Value.cells] at hcs
    obtain ⟨rfl, rfl, rfl⟩ := hcs
    exact ⟨[], none, 0, 0, 0, rfl, .inl rfl, fun j p hj => by simp at hj⟩
  · simp [Value.cells] at hcs
    obtain ⟨rfl, rfl, rfl⟩ := hcs
    have hlen : len ≤ zs.length := by rw [hz]; split <;> omega
    by_cases h0 : len = 0
    · subst h0
      exact ⟨[], some a, 0, 0, cap, rfl, .inl rfl, fun j p hj => by simp at hj⟩
    · obtain ⟨b, off, spot⟩ := a
      have hspot : spot = none := by simpa [Addr.add] using World.cell?_spot (hcell 0 (by omega))
      subst hspot
      have hbd : ∀ i, i < len → 0 ≤ zs.getD i 0 ∧ zs.getD i 0 < 4294967296 := by
        intro i hi
        have hmem : zs.getD i 0 ∈ zs := by
          have hiz : i < zs.length := by omega
          rw [List.getD_eq_getElem?_getD, List.getElem?_eq_getElem hiz]
          exact List.getElem_mem _
        have hbb := bnd_u32 (hw _ hmem)
        exact ⟨hbb.1, by omega⟩
      refine ⟨(List.range len).map fun i => (zs.getD i 0).toNat, some ⟨b, off, none⟩, b, off, cap, by simp, .inr rfl, fun j x hj => ?_⟩
      have hjl : j < len := by
        have := (List.getElem?_eq_some_iff.1 hj).1
        simpa using this
      simp only [List.getElem?_map, List.getElem?_range hjl, Option.map_some, Option.some.injEq] at hj
      subst hj
      have e := hcell j (by omega)
      rw [add_plain] at e
      rw [e]
      have := hbd j hjl
      show some (Value.int .u32 _) = some (Value.int .u32 _)
      congr 2
      omega
theorem co_int : Try.prog.cellsOf 3 = 1 := by kernel_rfl
theorem co_act : Try.prog.cellsOf 30 = 2 := by kernel_rfl
theorem lst2a {α : Type} (l : List α) (h : l.length = 2) : ∃ a0 a1, l = [a0, a1] := by
  rcases l with _ | ⟨a0, _ | ⟨a1, _ | ⟨z, l⟩⟩⟩
  all_goals first | (cases h; done) | exact ⟨_, _, rfl⟩ | (simp at h)
section
variable {H : Type} {enc : TypeId × Value → H} {W : World} {b1 : Nat} {sp : Nat → Bool} {held : Bool} {k : Nat}
theorem one_int {v : Value} {y} (h : DataW.trod enc Try.prog W b1 sp held k 3 [v] = some y) : ∃ q : Int, v = .int .i64 q := by
  obtain ⟨q, h1, _, _⟩ := DataW.trod_int Try.underlying3 h
  exact ⟨q, by simpa using h1⟩
theorem one_num {v : Value} {y} (h : DataW.trod enc Try.prog W b1 sp held k 24 [v] = some y) : ∃ q : Nat, v = .int .u32 q := by
  obtain ⟨q, h1, _, w1⟩ := DataW.trod_int Try.underlying24 h
  obtain ⟨m, n⟩ := bnd_u32 w1
  obtain ⟨N, rfl⟩ := Int.eq_ofNat_of_zero_le m
  exact ⟨N, by simpa using h1⟩
set_option maxRecDepth 100000 in
theorem open_sact {cs : List Value} {y} (hl : cs.length = 2) (h : DataW.trod enc Try.prog W b1 sp held k 30 cs = some y) : ∃ x : Int × Nat, cs = [.int .i64 x.1, .int .u32 x.2] := by
  obtain ⟨v0, v1, rfl⟩ := lst2a cs hl
  obtain ⟨xs, k, hk, hxy, _, hxl, hf'⟩ := DataW.trod_struct Try.underlying30 h
  obtain ⟨y0, y1, rfl⟩ := lst2a xs hxl
  have g0 : DataW.trod enc Try.prog W b1 sp held k 3 (([v0, v1].drop 0).take (Try.prog.cellsOf 3)) = some y0 := hf' 0 _ rfl
  rw [co_int] at g0
  obtain ⟨s0, e0⟩ := one_int (v := v0) g0
  have g1 : DataW.trod enc Try.prog W b1 sp held k 24 (([v0, v1].drop 1).take (Try.prog.cellsOf 24)) = some y1 := hf' 1 _ rfl
  rw [cells_u32] at g1
  obtain ⟨s1, e1⟩ := one_num (v := v1) g1
  exact ⟨(s0, s1), by rw [e0, e1]⟩
end
theorem choose_sact {n : Nat} {P : Nat → (Int × Nat) → Prop} (h : ∀ i, i < n → ∃ x, P i x) : ∃ f : Nat → (Int × Nat), ∀ i, i < n → P i (f i) := by
  classical
  refine ⟨fun i => if hi : i < n then Classical.choose (h i hi) else (0, 0), fun i hi => ?_⟩
  simp only [hi, dif_pos]
  exact Classical.choose_spec (h i hi)
set_option maxRecDepth 100000 in
theorem open_sacts {H : Type} {enc : TypeId × Value → H} {W : World} {r : Reach} {b0 b1 : Nat} {sp : Nat → Bool} {held : Bool} {v : Value} {d : DataW H} {p : List MemPlace}
    (hv : Value.okWide Try.prog W r b0 23 v) (h : DataW.Trod enc Try.prog W b1 sp held 23 v d p) :
    ∃ l : List (Int × Nat), SlA W v l := by
  obtain ⟨a0, len, cap, rfl⟩ := okWide_slice Try.underlying23 hv
  obtain ⟨fuel, hf⟩ := h
  rcases open_slice Try.underlying23 hf with hcs | ⟨a, len', cap', m, n, D, Pl, hcs, _, hl, hm, hz, _, hcell⟩
  · have hcs := hcs.1
    simp [Value.cells] at hcs
    obtain ⟨rfl, rfl, rfl⟩ := hcs
    exact ⟨[], none, 0, 0, 0, rfl, .inl rfl, fun j x hj => by simp at hj⟩
  · simp [Value.cells] at hcs
    obtain ⟨rfl, rfl, rfl⟩ := hcs
    have hlen : len ≤ m := by rw [hz]; split <;> omega
    have each : ∀ i, i < len → ∃ x : Int × Nat, W.cell? (a.add (i * 2 + 0)) = some (.int .i64 x.1) ∧ W.cell? (a.add (i * 2 + 1)) = some (.int .u32 x.2) := by
      intro i hi
      obtain ⟨cs', h1, h2⟩ := hcell i (by omega)
      rw [co_act] at h1
      obtain ⟨_, hlen', hcc⟩ := World.cells?_some h1
      obtain ⟨x, rfl⟩ := open_sact hlen' h2
      have c0 := hcc 0 (by omega)
      have c1 := hcc 1 (by omega)
      rw [add_add] at c0 c1
      exact ⟨x, by rw [c0]; rfl, by rw [c1]; rfl⟩
    by_cases h0 : len = 0
    · subst h0
      exact ⟨[], some a, 0, 0, cap, rfl, .inl rfl, fun j x hj => by simp at hj⟩
    · obtain ⟨b, off, spot⟩ := a
      obtain ⟨p0, hsp, _⟩ := each 0 (by omega)
      have hspot : spot = none := by simpa [Addr.add] using World.cell?_spot hsp
      subst hspot
      obtain ⟨f, hfx⟩ := choose_sact each
      refine ⟨(List.range len).map f, some ⟨b, off, none⟩, b, off, cap, by simp, .inr rfl, fun j x hj => ?_⟩
      have hjl : j < len := by
        have := (List.getElem?_eq_some_iff.1 hj).1
        simpa using this
      simp [hjl] at hj
      subst hj
      obtain ⟨c0, c1⟩ := hfx j hjl
      rw [add_plain] at c0 c1
      exact ⟨by simpa using c0, by rw [Nat.add_assoc]; exact c1⟩
end Go.Proofs.Ytdkkcogjkeonkaa
