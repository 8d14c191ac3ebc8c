/- The contracts of a key's row: Str, Queue of the example, light, Under. -/
import Derived.Test.YtfoijhofpjaldaaDoorRefKey
import Derived.Test.YtfoijhofpjaldaaDoorRowed
import Derived.Test.YtfoijhofpjaldaaDoorRefParts
import Derived.Laws.AppendOwnNone
set_option maxRecDepth 100000
set_option maxHeartbeats 4000000
set_option linter.unusedVariables false
namespace Go.Proofs.YtfoijhofpjaldaaDoor
open Go.RowKit
theorem Sl.two (w : World) (p q : Ord.P) (T : TypeId) : Sl (w.alloc (.cells #[.bool p.t, .int .u64 p.n, .string (str p.s), .bool q.t, .int .u64 q.n, .string (str q.s)] T)) (.slice (some ⟨w.heap.size, 0, none⟩) 2 2) [p, q] := by
  refine ⟨_, w.heap.size, 0, 2, rfl, .inr rfl, fun j r hj => ?_⟩
  match j, hj with
  | 0, hj => simp at hj; subst hj; refine ⟨?_, ?_, ?_⟩ <;> simp
  | 1, hj => simp at hj; subst hj; refine ⟨?_, ?_, ?_⟩ <;> simp
  | (j + 2), hj => simp at hj
theorem queueEx : keyOut [⟨true, 0, [113]⟩, ⟨true, 0, [97]⟩] = .tuple #[.string ⟨#[2, 113, 0, 0, 2, 97, 0, 0]⟩, .int .i64 0] := by
  rw [keyOut_ok _ (by decide)]; rfl
theorem keyEx2 (m : Int) (W : World) (hm : W.cell? ⟨0, 0, none⟩ = some (.int .i64 m)) (T : TypeId) :
    Calls Tryd.prog 12 #[.slice (some ⟨W.heap.size, 0, none⟩) 2 2] (W.alloc (.cells #[.bool true, .int .u64 0, .string ⟨#[113]⟩, .bool true, .int .u64 0, .string ⟨#[97]⟩] T)) fun e w' => e = .returned (.tuple #[.string ⟨#[2, 113, 0, 0, 2, 97, 0, 0]⟩, .int .i64 0]) ∧ Below W.heap.size W w' := by
  have h0 := World.block_lt_of_cell? _ _ hm
  have h1 := key_any _ [⟨true, 0, [113]⟩, ⟨true, 0, [97]⟩] (by decide) m _ (Sl.two W ⟨true, 0, [113]⟩ ⟨true, 0, [97]⟩ T) (by intro p hp; simp at hp; rcases hp with rfl | rfl <;> decide) (((Below.refl _ _).alloc (Nat.le_refl _) _ |>.cell (p := ⟨0, 0, none⟩) h0).trans hm)
  rw [queueEx] at h1
  exact h1.mono fun e w' h => ⟨h.1, below_step ((Below.refl _ _).alloc (Nat.le_refl _) _) h.2⟩
theorem queueEx_any (m : Int) (w : World) (hm : w.cell? ⟨0, 0, none⟩ = some (.int .i64 m)) :
    Calls Tryd.prog 10 #[.string ⟨#[97]⟩] w fun e w' => e = .returned (.tuple #[.string ⟨#[2, 113, 0, 0, 2, 97, 0, 0]⟩, .int .i64 0]) ∧ Below w.heap.size w w' := by
  have h0 := World.block_lt_of_cell? _ _ hm
  have HM : Hid (∀ W, Below w.heap.size w W → W.cell? ⟨0, 0, none⟩ = some (.int .i64 m)) := fun W hW => (hW.cell (p := ⟨0, 0, none⟩) h0).trans hm
  have hs1 := fun W => strP_any [113] W
  have hs2 := fun W => strP_any [97] W
  unfold aggP at hs1 hs2
  have H1 : Hid (∀ W, Calls Tryd.prog 11 #[.string ⟨#[113]⟩] W fun e w' => e = .returned (.agg #[.bool true, .int .u64 0, .string ⟨#[113]⟩]) ∧ Below W.heap.size W w') := hs1
  have H2 : Hid (∀ W, Calls Tryd.prog 11 #[.string ⟨#[97]⟩] W fun e w' => e = .returned (.agg #[.bool true, .int .u64 0, .string ⟨#[97]⟩]) ∧ Below W.heap.size W w') := hs2
  clear hs1 hs2 hm h0
  go_enter Tryd.func10, Tryd.ntmps10
  go_wp2_with (first
    | (go_at_call 12; refine (keyEx2 m _ (HM.out _ (below_step hb1 hb2)) _).mono ?_; rintro e w3 ⟨rfl, hb3⟩)
    | (go_at_call 11; have tok := hb1; refine (H2.out _).mono ?_; rintro e w2 ⟨rfl, hb2⟩)
    | (go_at_call 11; refine (H1.out _).mono ?_; rintro e w1 ⟨rfl, hb1⟩))
  go_ret2
  exact ⟨rfl, below_step (below_step hb1 hb2) hb3⟩
theorem awake18 (m : Int) (w : World) (hm : w.cell? ⟨0, 0, none⟩ = some (.int .i64 m)) : Calls Tryd.prog 4 #[] w fun e w' => e = .returned (.bool true) ∧ Below w.heap.size w w' := by
  go_enter Tryd.func4, Tryd.ntmps4
  go_wp2_with (go_at_call 10; refine (queueEx_any m _ hm).mono ?_; rintro e w1 ⟨rfl, hb1⟩)
  go_ret
  exact ⟨rfl, hb1⟩
/-- A row of texts that a slice shows. -/
def Sls (w : World) (v : Value) (l : List ByteArray) : Prop :=
  ∃ b o c : Nat, v = .slice (some ⟨b, o, none⟩) l.length c ∧ ∀ (j : Nat) s, l[j]? = some s → w.cell? ⟨b, o + j, none⟩ = some (.string s)
theorem light18 (v : Value) (l : List ByteArray) (hll : l.length ≤ 100) (w : World) (hv : Sls w v l) :
    Calls Tryd.prog 5 #[v] w fun e w' => e = .returned (.bool (l.all fun s => decide (s.size ≤ 400))) ∧ w = w' := by
  obtain ⟨b, o, c, rfl, hx⟩ := hv
  have HX := Lib.hid hx
  clear hx
  go_enter Tryd.func5, Tryd.ntmps5
  go_wp2
  go_loop [7] (fun i => ∃ k : Nat, k ≤ l.length ∧ i = .int .i64 k ∧ Hid ((l.take k).all (fun s => decide (s.size ≤ 400)) = true)) (fun i => l.length - (intOf i).toNat)
  case atStart => exact ⟨0, Nat.zero_le _, rfl, rfl⟩
  case round =>
    obtain ⟨k, hk, rfl, HA⟩ := hrel
    by_cases hlt : k < l.length
    · obtain ⟨s, hs⟩ : ∃ s, l[k]? = some s := ⟨_, List.getElem?_eq_getElem hlt⟩
      have d0 := HX.out k s hs
      have HS : Hid (l = l.take k ++ s :: l.drop (k + 1)) := by
        obtain ⟨h1, h2⟩ := List.getElem?_eq_some_iff.1 hs
        show _ = _
        rw [← h2, ← List.drop_eq_getElem_cons h1, List.take_append_drop]
      have HT : Hid (s.size ≤ 400 → (l.take (k + 1)).all (fun s => decide (s.size ≤ 400)) = true) := by
        intro h
        obtain ⟨h1, h2⟩ := List.getElem?_eq_some_iff.1 hs
        rw [List.take_succ_eq_append_getElem h1, List.all_append, HA.out, h2]
        simpa using h
      clear hs
      by_cases h4 : (s.size : Int) > 400
      · have HF : Hid (l.all (fun s => decide (s.size ≤ 400)) = false) := by
          show _ = _
          rw [HS.out, List.all_append, List.all_cons]
          have : decide (s.size ≤ 400) = false := by simp; omega
          rw [this]; simp
        go_wp2
        go_ret
        exact ⟨by rw [HF.out]; rfl, rfl⟩
      · go_wp2
        go_round
        case rel => exact ⟨k + 1, by omega, by go_num, HT.out (by omega)⟩
        case measure => simp [intOf]; omega
    · obtain rfl : k = l.length := by omega
      have HF : Hid (l.all (fun s => decide (s.size ≤ 400)) = true) := by
        have := HA.out
        rwa [List.take_length] at this
      go_wp2
      go_ret
      exact ⟨by rw [HF.out]; rfl, rfl⟩
end Go.Proofs.YtfoijhofpjaldaaDoor
