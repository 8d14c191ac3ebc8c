/- The set of some texts. -/
import Derived.Test.YtdkkcogjkeonkaaUxCpt
import Derived.Test.YtdkkcogjkeonkaaUxSrt
set_option maxRecDepth 100000
set_option maxHeartbeats 4000000
set_option linter.unusedVariables false
namespace Go.Proofs.Ytdkkcogjkeonkaa
open Go.RowKit Go.Sort
open Tx (Rise Ord above)
/-- Some texts, rising, each once. -/
def ddV (l : List Nat) : List Nat := Tx.cmpn (srtV l) (srtV l).length
theorem srtV_le (l : List Nat) : (srtV l).Pairwise fun a b => vlt b a = false := by
  have h := List.pairwise_mergeSort (le := fun x y : Nat => decide (x ≤ y)) (fun a b c h1 h2 => decide_eq_true (Nat.le_trans (of_decide_eq_true h1) (of_decide_eq_true h2))) (fun a b => by
    rcases Nat.le_total a b with h | h
    · rw [decide_eq_true h]; rfl
    · rw [decide_eq_true h, Bool.or_true]) l
  exact h.imp (fun {a b} h => decide_eq_false (Nat.not_lt.2 (of_decide_eq_true h)))
theorem srtV_len (l : List Nat) : (srtV l).length = l.length := List.length_mergeSort l
theorem srtV_mem (l : List Nat) (z : Nat) : z ∈ srtV l ↔ z ∈ l := List.mem_mergeSort
theorem ddV_rise (l : List Nat) : Rise vlt (ddV l) := (Tx.cmpn_rise vord (srtV l) (srtV_le l) _ (Nat.le_refl _)).1
theorem ddV_mem (l : List Nat) (z : Nat) : z ∈ ddV l ↔ z ∈ l := by
  unfold ddV
  rw [(Tx.cmpn_rise vord (srtV l) (srtV_le l) _ (Nat.le_refl _)).2, List.take_length, srtV_mem]
theorem ddV_len (l : List Nat) : (ddV l).length ≤ l.length := by
  have := Tx.cmpn_len (srtV l) (srtV l).length
  exact Nat.le_trans this (Nat.le_of_eq (srtV_len l))
theorem uxClone_any (v : Value) (l : List Nat) (hl : l.length ≤ 100000) (w : World) (hv : SlV w v l) :
    Calls Try.prog 23 #[v] w fun e w' => ∃ v', e = .returned v' ∧ RowV w' w.heap.size v' l ∧ Below w.heap.size w w' := by
  obtain ⟨i0, hi, hz0, hz1, hz2⟩ := info_parts infoV
  obtain ⟨a, b, o, c, rfl, ha, hx⟩ := hv
  cases a with
  | none =>
    have hl0 : l = [] := ha.resolve_right (fun h => by cases h)
    subst hl0
    exact (Try.slices_Clone_nil_f23 _ c w).mono fun e w' h => ⟨_, h.1, by rw [h.2]; exact ⟨RowP.nil _ _ _ _, Below.refl _ _⟩⟩
  | some ad =>
    have HX := Lib.hid hx
    have HA := Lib.hid ha
    have q22 : ∀ (w : World) (a : Option Addr) (n c n' c' : Nat), (binOp .eql 22 (.slice a n c) (.slice none n' c')).run Try.prog w = .ok (.bool a.isNone) w := fun w a n c n' c' => Lib.run_eql_slice_nil w _ _ a n c n' c' Try.underlying22
    clear ha hx
    go_enter Try.func23, Try.ntmps23
    go_wp2_with (at_builtin; refine wpList_append_own _ rfl _ _ 22 rfl w.heap.size 24 i0 _ 1 4 Try.underlying22 hi hz0 hz1 hz2 rfl (by decide) _ _ _ rfl (World.ownsRow_made w #[] 0 (Nat.le_refl _) (Nat.zero_le _) rfl) ad l.length c (l.map eV) rfl ?p0 ?p1 ?p2 ?p3 ?p4 ?p5 ?_)
    case p0 => simp
    case p1 =>
      intro j u hj
      rcases HA.out with h | h
      · subst h; simp at hj
      · cases h
        rw [List.getElem?_map] at hj
        cases hy : l[j]? with
        | none => rw [hy] at hj; cases hj
        | some y =>
          rw [hy] at hj
          cases hj
          rw [show (⟨b, o, none⟩ : Addr).add j = ⟨b, o + j, none⟩ by unfold Addr.add; split <;> simp_all]
          exact ((Below.refl w.heap.size w).alloc (Nat.le_refl _) _).cell (p := ⟨b, o + j, none⟩) (World.block_lt_of_cell? _ _ (HX.out j y hy)) |>.trans (HX.out j y hy)
    case p2 =>
      intro u hu
      obtain ⟨y, _, rfl⟩ := List.mem_map.1 hu
      rfl
    case p3 => unfold maxLen; omega
    case p4 => omega
    case p5 => simp
    intro v' w1 hown hgrow _
    go_wp2
    go_ret
    refine ⟨v', rfl, ?_, ((Below.refl _ w).alloc (Nat.le_refl _) _).grown hgrow (by simp) (by intro k hk; simp [Value.ownBlock] at hk; omega)⟩
    show w1.ownsRow _ _ _ _ _ _
    simpa using hown
theorem uxOf_any (v : Value) (l : List Nat) (hl : l.length ≤ 12) (w : World) (hv : SlV w v l) :
    Calls Try.prog 5 #[v] w fun e w' => ∃ p v', e = .returned (.pointer (some ⟨p, 0, none⟩)) ∧ w.heap.size ≤ p ∧ SetV w' p w.heap.size v' (ddV l) ∧ Below w.heap.size w w' := by
  have HC := Lib.hid (uxClone_any v l (by omega) w hv)
  have HL := Lib.hid (srtV_len l)
  have hll := hl
  obtain ⟨a, c, rfl⟩ := hv.slice
  clear hv
  go_enter Try.func5, Try.ntmps5
  go_wp2_with (first
    | (go_at_call 23; refine HC.out.mono ?_; rintro e w1 ⟨v1, rfl, hr1, hb1⟩; have HR1 := Lib.hid hr1; have HB1 := Lib.hid hb1; obtain ⟨a1, c1, rfl⟩ := hr1.slice; clear hr1 hb1)
    | (go_at_call 24; refine (sort32_small _ l hl _ _ HR1.out).mono ?_; rintro e w2 ⟨rfl, hr2, hb2⟩; have HR2 := Lib.hid hr2; have HB2 := Lib.hid hb2; clear hr2 hb2)
    | (go_at_call 25; refine (uxCptF_any _ (srtV l) (by have := HL.out; omega) w.heap.size _ (Nat.le_trans HB1.out.size HB2.out.size) HR2.out).mono ?_; rintro e w3 ⟨v3, rfl, hr3, hb3⟩; have HR3 := Lib.hid hr3; have HB3 := Lib.hid hb3; obtain ⟨a3, c3, rfl⟩ := hr3.slice; clear hr3 hb3))
  go_ret
  have hb : Below w.heap.size w w3 := HB1.out.trans (HB2.out.trans HB3.out)
  refine ⟨w3.heap.size, _, rfl, hb.size, ⟨World.cell?_alloc_new w3 _ _ 0, World.frozen?_alloc_new w3 _ _ 0, HR3.out.below ((Below.refl _ _).alloc (Nat.le_refl _) _), ddV_rise l, fun e => ?_⟩, hb.alloc hb.size _⟩
  have := (HR3.out.lt e).1
  exact absurd this (Nat.lt_irrefl _)
end Go.Proofs.Ytdkkcogjkeonkaa
