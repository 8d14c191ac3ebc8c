/- Rows of acts that are handed in, opened. -/
import Derived.Test.YtpgaepilnbjhbaaLsSx
import Derived.Test.YtpgaepilnbjhbaaLsOpen
import Derived.ChangeArms
import Derived.ChangeSlices
import Derived.ChangeOld
import Derived.Carry
import Derived.Deep.Slices
set_option maxRecDepth 100000
set_option maxHeartbeats 4000000
set_option linter.unusedVariables false
namespace Go.Proofs.Ytpgaepilnbjhbaa
open Go.Joins Go.ChangeShapes Go.WideShapes Go.ChangeAt Go.RowKit Go.Deep
theorem co_i64 : Try.prog.cellsOf 3 = 1 := by kernel_rfl
theorem co_act : Try.prog.cellsOf 36 = 4 := by kernel_rfl
theorem lst3a {α : Type} (l : List α) (h : l.length = 3) : ∃ a0 a1 a2, l = [a0, a1, a2] := by
  rcases l with _ | ⟨a0, _ | ⟨a1, _ | ⟨a2, _ | ⟨z, l⟩⟩⟩⟩
  all_goals first | (cases h; done) | exact ⟨_, _, _, rfl⟩ | (simp at h)
theorem lst4a {α : Type} (l : List α) (h : l.length = 4) : ∃ a0 a1 a2 a3, l = [a0, a1, a2, a3] := by
  rcases l with _ | ⟨a0, _ | ⟨a1, _ | ⟨a2, _ | ⟨a3, _ | ⟨z, l⟩⟩⟩⟩⟩
  all_goals first | (cases h; done) | exact ⟨_, _, _, _, rfl⟩ | (simp at h)
section
variable {H : Type} {enc : TypeId × Value → H} {W : World} {b1 : Nat} {sp : Nat → Bool} {held : Bool} {k : Nat}
theorem one_s {v : Value} {y} (h : DataW.trod enc Try.prog W b1 sp held k 9 [v] = some y) : ∃ s : ByteArray, v = .string s := by
  obtain ⟨s, h1, _, _⟩ := DataW.trod_string Try.underlying9 h
  exact ⟨s, by simpa using h1⟩
theorem one_i {v : Value} {y} (h : DataW.trod enc Try.prog W b1 sp held k 3 [v] = some y) : ∃ q : Int, v = .int .i64 q := by
  obtain ⟨q, h1, _, _⟩ := DataW.trod_int Try.underlying3 h
  exact ⟨q, by simpa using h1⟩
theorem one_u64 {v : Value} {y} (h : DataW.trod enc Try.prog W b1 sp held k 32 [v] = some y) : ∃ q : Nat, v = .int .u64 q := by
  obtain ⟨q, h1, _, w1⟩ := DataW.trod_int Try.underlying32 h
  obtain ⟨m, n⟩ := bnd_u64 w1
  obtain ⟨N, rfl⟩ := Int.eq_ofNat_of_zero_le m
  exact ⟨N, by simpa using h1⟩
set_option maxRecDepth 100000 in
theorem open_key2 {v1 v2 : Value} {y} (h : DataW.trod enc Try.prog W b1 sp held k 34 [v1, v2] = some y) : ∃ (s1 : ByteArray) (s2 : Nat), v1 = .string s1 ∧ v2 = .int .u64 s2 := by
  obtain ⟨xs, k, hk, hxy, _, hxl, hf'⟩ := DataW.trod_struct Try.underlying34 h
  obtain ⟨y0, y1, rfl⟩ := lst2 xs hxl
  have g0 : DataW.trod enc Try.prog W b1 sp held k 9 (([v1, v2].drop 0).take (Try.prog.cellsOf 9)) = some y0 := hf' 0 _ rfl
  rw [co_s] at g0
  obtain ⟨s1, e1⟩ := one_s (v := v1) g0
  have g1 : DataW.trod enc Try.prog W b1 sp held k 32 (([v1, v2].drop 1).take (Try.prog.cellsOf 32)) = some y1 := hf' 1 _ rfl
  rw [co_u64] at g1
  obtain ⟨s2, e2⟩ := one_u64 (v := v2) g1
  exact ⟨s1, s2, e1, e2⟩
set_option maxRecDepth 100000 in
theorem open_act {cs : List Value} {y} (hl : cs.length = 4) (h : DataW.trod enc Try.prog W b1 sp held k 36 cs = some y) : ∃ x : Ac, cs = cA x := by
  obtain ⟨v0, v1, v2, v3, rfl⟩ := lst4a cs hl
  obtain ⟨xs, k, hk, hxy, _, hxl, hf'⟩ := DataW.trod_struct Try.underlying36 h
  obtain ⟨y0, y1, y2, rfl⟩ := lst3a xs hxl
  have g0 : DataW.trod enc Try.prog W b1 sp held k 3 (([v0, v1, v2, v3].drop 0).take (Try.prog.cellsOf 3)) = some y0 := hf' 0 _ rfl
  rw [co_i64] at g0
  obtain ⟨s0, e0⟩ := one_i (v := v0) g0
  have g1 : DataW.trod enc Try.prog W b1 sp held k 34 (([v0, v1, v2, v3].drop 1).take (Try.prog.cellsOf 34)) = some y1 := hf' 1 _ rfl
  rw [cs_key] at g1
  obtain ⟨s1, s2, e1, e2⟩ := open_key2 (v1 := v1) (v2 := v2) g1
  have g2 : DataW.trod enc Try.prog W b1 sp held k 32 (([v0, v1, v2, v3].drop 3).take (Try.prog.cellsOf 32)) = some y2 := hf' 2 _ rfl
  rw [co_u64] at g2
  obtain ⟨s3, e3⟩ := one_u64 (v := v3) g2
  exact ⟨⟨s0, s1.toList, s2, s3⟩, by rw [e0, e1, e2, e3]; simp [cA, str, ByteArray.toList_eq]⟩
end
theorem choose_act {n : Nat} {P : Nat → Ac → Prop} (h : ∀ i, i < n → ∃ x, P i x) : ∃ f : Nat → Ac, ∀ i, i < n → P i (f i) := by
  classical
  refine ⟨fun i => if hi : i < n then Classical.choose (h i hi) else ⟨0, [], 0, 0⟩, fun i hi => ?_⟩
  simp only [hi, dif_pos]
  exact Classical.choose_spec (h i hi)
set_option maxRecDepth 100000 in
theorem open_acts {H : Type} {enc : TypeId × Value → H} {W : World} {r : Reach} {b0 b1 : Nat} {sp : Nat → Bool} {held : Bool} {v : Value} {d : DataW H} {p : List MemPlace}
    (hv : Value.okWide Try.prog W r b0 22 v) (h : DataW.Trod enc Try.prog W b1 sp held 22 v d p) :
    ∃ l : List Ac, SlW cA 4 W v l := by
  obtain ⟨a0, len, cap, rfl⟩ := okWide_slice Try.underlying22 hv
  obtain ⟨fuel, hf⟩ := h
  rcases open_slice Try.underlying22 hf with hcs | ⟨a, len', cap', m, n, D, Pl, hcs, _, hl, hm, hz, _, hcell⟩
  · have hcs := hcs.1
    simp [Value.cells] at hcs
    obtain ⟨rfl, rfl, rfl⟩ := hcs
    exact ⟨[], ⟨none, 0, 0, 0, rfl, .inl rfl, fun j x hj => by simp at hj⟩⟩
  · simp [Value.cells] at hcs
    obtain ⟨rfl, rfl, rfl⟩ := hcs
    have hlen : len ≤ m := by rw [hz]; split <;> omega
    have each : ∀ i, i < len → ∃ x : Ac, ∀ (j : Nat) u, (cA x)[j]? = some u → W.cell? (a.add (i * 4 + j)) = some u := by
      intro i hi
      obtain ⟨cs', h1, h2⟩ := hcell i (by omega)
      rw [co_act] at h1
      obtain ⟨_, hlen', hcc⟩ := World.cells?_some h1
      obtain ⟨x, rfl⟩ := open_act hlen' h2
      refine ⟨x, fun j u hu => ?_⟩
      have hj := (List.getElem?_eq_some_iff.1 hu).1
      have c0 := hcc j (by rw [hlen'] at hj; exact hj)
      rw [add_add] at c0
      rw [c0]
      exact hu
    by_cases h0 : len = 0
    · subst h0
      exact ⟨[], ⟨some a, 0, 0, cap, rfl, .inl rfl, fun j p hj => by simp at hj⟩⟩
    · obtain ⟨b, off, spot⟩ := a
      obtain ⟨p0, hsp⟩ := each 0 (by omega)
      have hspot : spot = none := by simpa [Addr.add] using World.cell?_spot (hsp 0 _ rfl)
      subst hspot
      obtain ⟨f, hfx⟩ := choose_act each
      refine ⟨(List.range len).map f, ⟨some ⟨b, off, none⟩, b, off, cap, by simp, .inr rfl, fun j p hj i u hu => ?_⟩⟩
      have hjl : j < len := by
        have := (List.getElem?_eq_some_iff.1 hj).1
        simpa using this
      simp [hjl] at hj
      subst hj
      have c0 := hfx j hjl i u hu
      rw [add_plain] at c0
      rw [Nat.add_assoc]
      exact c0
end Go.Proofs.Ytpgaepilnbjhbaa
