/- The contract of slices.Clone, at a row of cells. -/
import Derived.Test.YtilccpklbaglpaaNdBase
import Derived.Lib.SliceRun
set_option maxRecDepth 100000
set_option maxHeartbeats 4000000
set_option linter.unusedVariables false
namespace Go.Proofs.Ytilccpklbaglpaa
open Go.RowKit
open Sl (Cl Kd)
theorem SlK.takeS {w : World} {b o c c' : Nat} {l : List Kd} (h : SlK w (.slice (some ⟨b, o, none⟩) l.length c) l) (q : Nat) (hq : q ≤ l.length) : SlK w (.slice (some ⟨b, o, none⟩) q c') (l.take q) := by
  obtain ⟨a, b1, o1, c1, hv, ha, hx⟩ := h
  simp only [Value.slice.injEq] at hv
  obtain ⟨rfl, _, rfl⟩ := hv
  refine ⟨some ⟨b, o, none⟩, b, o, c', by rw [List.length_take, Nat.min_eq_left hq], .inr rfl, fun j x hj => ?_⟩
  have hjq : j < q ∧ l[j]? = some x := by
    have h1 := (List.getElem?_eq_some_iff.1 hj).1
    rw [List.length_take] at h1
    have h2 : j < q := by omega
    rw [List.getElem?_take_of_lt h2] at hj
    exact ⟨h2, hj⟩
  rcases ha with h0 | h0
  · subst h0; simp at hjq
  · cases h0; exact hx j x hjq.2
theorem SlK.dropS {w : World} {b o c c' : Nat} {l : List Kd} (h : SlK w (.slice (some ⟨b, o, none⟩) l.length c) l) (q : Nat) : SlK w (.slice (some ⟨b, o + q * 2, none⟩) (l.length - q) c') (l.drop q) := by
  obtain ⟨a, b1, o1, c1, hv, ha, hx⟩ := h
  simp only [Value.slice.injEq] at hv
  obtain ⟨rfl, _, rfl⟩ := hv
  refine ⟨some ⟨b, o + q * 2, none⟩, b, o + q * 2, c', by rw [List.length_drop], .inr rfl, fun j x hj => ?_⟩
  rw [List.getElem?_drop] at hj
  rcases ha with h0 | h0
  · subst h0; simp at hj
  · cases h0
    have := hx (q + j) x hj
    rw [show o + q * 2 + j * 2 = o + (q + j) * 2 by rw [Nat.add_mul]; omega]
    exact this
theorem SlK.emptyS (w : World) (a : Option Addr) (c : Nat) : SlK w (.slice a 0 c) [] := ⟨a, 0, 0, c, rfl, .inl rfl, fun j x h => by simp at h⟩
theorem cloneK_any (v : Value) (l : List Kd) (hll : l.length ≤ 100000) (w : World) (hv : SlK w v l) :
    Calls Try.prog 63 #[v] w (OwnK l w) := by
  obtain ⟨i0, hi, hz0, hz1, hz2⟩ := info_parts info47
  have q22 : ∀ (w : World) (a : Option Addr) (n c n' c' : Nat), (binOp .eql 44 (.slice a n c) (.slice none n' c')).run Try.prog w = .ok (.bool a.isNone) w := fun w a n c n' c' => Lib.run_eql_slice_nil w _ _ a n c n' c' Try.underlying44
  obtain ⟨a, b, o, c, rfl, ha, hx⟩ := hv
  have HX := Lib.hid (SlK.flat hx)
  have HA := Lib.hid ha
  clear ha hx
  cases a with
  | none =>
    have hl : l = [] := by
      rcases HA.out with h | h
      · exact h
      · cases h
    subst hl
    go_enter Try.func63, Try.ntmps63
    go_wp2
    go_ret
    exact ⟨_, rfl, World.ownsRow_nil _ _ _ _, Below.refl _ _⟩
  | some ad =>
    go_enter Try.func63, Try.ntmps63
    go_wp2_with (at_builtin; refine wpList_append_own _ rfl _ _ 44 rfl w.heap.size 52 i0 _ 2 24 Try.underlying44 hi hz0 hz1 hz2 rfl (by decide) _ _ _ rfl (World.ownsRow_made w #[] 0 (Nat.le_refl _) (Nat.zero_le _) rfl) ad l.length c (l.flatMap cellsK) rfl ?p0 ?p1 ?p2 ?p3 ?p4 ?p5 ?_)
    case p0 => exact flat_len _ _ cellsK_len _
    case p1 =>
      intro j u hj
      rcases HA.out with h | h
      · subst h; simp at hj
      · cases h
        exact Lib.cell?_alloc_some _ (HX.out j u hj)
    case p2 => exact flat_oneK _
    case p3 => unfold maxLen; omega
    case p4 => omega
    case p5 => simp
    intro v' w1 hown hgrow _
    go_wp2
    go_ret
    refine ⟨v', rfl, ?_, ((Below.refl _ w).alloc (Nat.le_refl _) _).grown hgrow (by simp) (by intro k hk; simp [Value.ownBlock] at hk; omega)⟩
    show w1.ownsRow _ _ _ _ _ _
    simpa using hown
end Go.Proofs.Ytilccpklbaglpaa
