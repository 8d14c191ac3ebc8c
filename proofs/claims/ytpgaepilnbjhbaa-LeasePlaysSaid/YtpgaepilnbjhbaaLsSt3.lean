/- The law's state while the document's list is still being made (Keep). -/
import Derived.Test.YtpgaepilnbjhbaaLsSx
set_option maxRecDepth 100000
set_option maxHeartbeats 4000000
set_option linter.unusedVariables false
namespace Go.Proofs.Ytpgaepilnbjhbaa
open Go.RowKit
open Ls (Txt Ln Ms sameL ltL low Mono Srt Uni free lend)
/-- The state without the document's list. -/
structure St0 (w0 : World) (b3 : Nat) (L : List Ln) (Ms : List (List Ln)) (sl v5 v6 : Value) (W : World) : Prop where
  box : Boxed2 W b3 27 CMP sl
  tab : SlT 80 W sl L
  T : ∃ s, RowG cT 2 27 W w0.heap.size v5 s ∧ Each 80 W s Ms
  P : ∃ s, RowG cP 1 29 W w0.heap.size v6 s ∧ Each 45 W s Ms
  ne : v5.ownBlock ≠ some b3
  srt : Srt ltL L
  uni : Uni sameL L
  len : L.length ≤ Ms.length
  all : ∀ m ∈ Ms, m.length ≤ 60
  few : Ms.length ≤ 51
  bel : Below w0.heap.size w0 W
  hb : w0.heap.size ≤ b3
variable {w0 W W' : World} {b3 : Nat} {L L' : List Ln} {Ms : List (List Ln)} {sl sl' v4 v5 v6 : Value}
theorem St0.st (h : St0 w0 b3 L Ms sl v5 v6 W) (hl : SlT 45 W v4 L) : St w0 b3 L Ms sl v4 v5 v6 W := ⟨h.box, h.tab, hl, h.T, h.P, h.ne, h.srt, h.uni, h.len, h.all, h.few, h.bel, h.hb⟩
theorem St0.below (h : St0 w0 b3 L Ms sl v5 v6 W) (hb : Below W.heap.size W W') : St0 w0 b3 L Ms sl v5 v6 W' := by
  obtain ⟨s, h1, h2⟩ := h.T
  obtain ⟨s', h3, h4⟩ := h.P
  exact ⟨h.box.below hb, h.tab.below hb, ⟨s, h1.below hb, h2.map fun _ _ h => h.below hb⟩, ⟨s', h3.below hb, h4.map fun _ _ h => h.below hb⟩, h.ne, h.srt, h.uni, h.len, h.all, h.few, on h.bel (Nat.le_refl _) hb, h.hb⟩
theorem St.put0 (h : St w0 b3 L Ms sl v4 v5 v6 W) (hs : SlT 80 W sl' L') (hok : Srt ltL L' ∧ Uni sameL L' ∧ L'.length ≤ Ms.length) :
    St0 w0 b3 L' Ms sl' v5 v6 ((W.setCell ⟨b3, 0, none⟩ CMP).setCell ⟨b3, 1, none⟩ sl') ∧ SlT 45 ((W.setCell ⟨b3, 0, none⟩ CMP).setCell ⟨b3, 1, none⟩ sl') v4 L := by
  obtain ⟨s, h1, h2⟩ := h.T
  obtain ⟨s', h3, h4⟩ := h.P
  have hset : ∀ k, k ≠ b3 → ((W.setCell ⟨b3, 0, none⟩ CMP).setCell ⟨b3, 1, none⟩ sl').heap[k]? = W.heap[k]? := fun k hk => by rw [Below.heap_setCell _ _ _ _ hk, Below.heap_setCell _ _ _ _ hk]
  have kL : ∀ v m, SlT 80 W v m → SlT 80 ((W.setCell ⟨b3, 0, none⟩ CMP).setCell ⟨b3, 1, none⟩ sl') v m := fun v m hv => hv.stay (stay_set h.box (by decide))
  have kE : ∀ v m, SlT 45 W v m → SlT 45 ((W.setCell ⟨b3, 0, none⟩ CMP).setCell ⟨b3, 1, none⟩ sl') v m := fun v m hv => hv.stay (stay_set h.box (by decide))
  exact ⟨⟨h.box.set _ _, kL _ _ hs, ⟨s, h1.keep fun g hg => hset g fun e => h.ne (by rw [hg, e]), h2.map kL⟩, ⟨s', h3.keep fun g hg => hset g fun e => h3.not_row h.box (by decide) (by rw [hg, e]), h4.map kE⟩, h.ne, hok.1, hok.2.1, hok.2.2, h.all, h.few,
    (h.bel.setCell (p := ⟨b3, 0, none⟩) h.hb _).setCell (p := ⟨b3, 1, none⟩) h.hb _, h.hb⟩, kE _ _ h.lst⟩
theorem snoc_keep (p : Ln → Bool) (e : Ln) (m : List Ln) (h : p e = true) : (m ++ [e]).filter p = m.filter p ++ [e] := by rw [List.filter_append]; simp [h]
theorem snoc_skip (p : Ln → Bool) (e : Ln) (m : List Ln) (h : p e = false) : (m ++ [e]).filter p = m.filter p := by rw [List.filter_append]; simp [h]
theorem St.keepPut {p : Ln → Bool} (h : St w0 b3 L Ms sl v4 v5 v6 W) (hl : L.length + 1 ≤ Ms.length) (hs : SlT 80 W sl' (L.filter p)) :
    St0 w0 b3 (L.filter p) Ms sl' v5 v6 ((W.setCell ⟨b3, 0, none⟩ CMP).setCell ⟨b3, 1, none⟩ sl') ∧ SlT 45 ((W.setCell ⟨b3, 0, none⟩ CMP).setCell ⟨b3, 1, none⟩ sl') v4 L :=
  h.put0 hs ⟨(filter_ok p h.srt h.uni).1, (filter_ok p h.srt h.uni).2.1, Nat.le_trans (filter_ok p h.srt h.uni).2.2 hl⟩
theorem keep_t (ab n : Nat) (sl : Value) (L : List Ln) (hl : L.length ≤ 1000) (W : World) (h : SlT 80 W sl L) (hc : W.cell? ⟨ab, 3, none⟩ = some (.int .u64 n)) :
    Calls Try.prog 12 #[.agg #[.func (.func 29) #[] #[], sl], .func (.func 13) #[] #[.pointer (some ⟨ab, 0, none⟩)]] W fun e w' => ∃ v, e = .returned (.agg #[.func (.func 29) #[] #[], v]) ∧ SlT 80 w' v (L.filter fun e => decide (e.id ≠ n)) ∧ Below W.heap.size W w' :=
  (keepF_any 29 sl ab n L hl W h.g hc).mono fun _ _ h' => h'.slT
theorem keepAll_t (sl : Value) (L : List Ln) (hl : L.length ≤ 1000) (W : World) (h : SlT 80 W sl L) :
    Calls Try.prog 12 #[.agg #[.func (.func 29) #[] #[], sl], .nilFunc] W fun e w' => ∃ v, e = .returned (.agg #[.func (.func 29) #[] #[], v]) ∧ SlT 80 w' v L ∧ Below W.heap.size W w' := by
  have h1 := (keepN_any 29 sl L hl W h.g).mono fun _ _ h' => h'.slT
  rw [show (L.filter fun e => (fun _ : Nat => true) e.id) = L from List.filter_eq_self.2 fun _ _ => rfl] at h1
  exact h1
end Go.Proofs.Ytpgaepilnbjhbaa
