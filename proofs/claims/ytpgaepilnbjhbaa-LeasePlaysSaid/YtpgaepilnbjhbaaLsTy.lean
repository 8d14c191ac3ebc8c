/- Rows whose blocks' type is told: what tables and lists show, so that a row of another type may grow beside them. -/
import Derived.Test.YtpgaepilnbjhbaaLsKpN
import Derived.Test.YtpgaepilnbjhbaaLsUnt
import Derived.Test.YtpgaepilnbjhbaaLsRow
import Derived.Test.YtpgaepilnbjhbaaLsRefL
import Derived.Test.YtpgaepilnbjhbaaLsAwk
set_option maxRecDepth 100000
set_option maxHeartbeats 4000000
set_option linter.unusedVariables false
namespace Go.Proofs.Ytpgaepilnbjhbaa
open Go.RowKit
open Ls (Txt Ln Ms sameL ltL)
/-- A slice that shows a row, in a block of this type. -/
structure SlT (T : TypeId) (w : World) (v : Value) (l : List Ln) : Prop where
  g : SlG cL 3 w v l
  ty : ∀ k, v.ownBlock = some k → ∃ cur, w.heap[k]? = some (.cells cur T)
variable {T T' : TypeId} {w w' : World} {v : Value} {l : List Ln} {B : Nat}
theorem SlT.below (h : SlT T w v l) (hb : Below w.heap.size w w') : SlT T w' v l :=
  ⟨h.g.below hb, fun k hk => by
    obtain ⟨cur, h1⟩ := h.ty k hk
    exact ⟨cur, (hb.block k (Array.getElem?_eq_some_iff.1 h1).1).trans h1⟩⟩
theorem SlT.nil (T : TypeId) (w : World) : SlT T w (.slice none 0 0) [] := ⟨SlG.nil _, fun k h => by simp [Value.ownBlock] at h⟩
theorem RowG.slT (h : RowG cL 3 T w B v l) : SlT T w v l :=
  ⟨h.sl encL, fun k hk => by
    obtain ⟨_, h1⟩ := h
    rcases h1 with ⟨rfl, _⟩ | ⟨g, cap, cur, rfl, _, hg, _⟩
    · simp [Value.ownBlock] at hk
    · obtain rfl : g = k := by simpa [Value.ownBlock] using hk
      exact ⟨cur, hg⟩⟩
theorem cell_same {w w' : World} {p : Nat} (h : w'.heap[p]? = w.heap[p]?) (o : Nat) : w'.cell? ⟨p, o, none⟩ = w.cell? ⟨p, o, none⟩ := by simp [World.cell?, h]
/-- It stays where the blocks of its type stay. -/
theorem SlT.stay (h : SlT T w v l) (hk : ∀ (b : Nat) (cur : Array Value), w.heap[b]? = some (.cells cur T) → w'.heap[b]? = some (.cells cur T)) : SlT T w' v l := by
  obtain ⟨a, b, o, c, rfl, h2, h3, h4, h5, h6⟩ := h.g.get
  rcases h5 with rfl | rfl
  · obtain rfl : c = 0 := h4 rfl
    have hl : l = [] := List.length_eq_zero_iff.1 (by omega)
    subst hl
    exact SlT.nil T _
  · obtain ⟨cur, hc⟩ := h.ty b rfl
    have hc' := hk b cur hc
    refine ⟨⟨_, b, o, c, rfl, h2, h3, h4, .inr rfl, fun j x hj i u hu => ?_⟩, fun k hk' => ?_⟩
    · exact (cell_same (hc'.trans hc.symm) _).trans (h6 j x hj i u hu)
    · obtain rfl : b = k := by simpa [Value.ownBlock] using hk'
      exact ⟨cur, hc'⟩
theorem FreeOutL.slT {fn sl : Value} {l0 l : List Ln} {e : Ending} (h : FreeOutL fn sl l0 l w e w') (hs : SlT 80 w sl l0) : ∃ v, e = .returned (.agg #[fn, v]) ∧ SlT 80 w' v l ∧ Below w.heap.size w w' := by
  obtain ⟨v, he, h1, _, hb⟩ := h
  refine ⟨v, he, ?_, hb⟩
  rcases h1 with ⟨rfl, rfl⟩ | h1
  · exact hs.below hb
  · exact h1.slT
theorem LendOutL.slT {fn : Value} {l : List Ln} {e : Ending} (h : LendOutL fn l w e w') : ∃ v, e = .returned (.agg #[fn, v]) ∧ SlT 80 w' v l ∧ Below w.heap.size w w' := by
  obtain ⟨v, he, h1, hb⟩ := h
  exact ⟨v, he, h1.slT, hb⟩
theorem own_cut {sa : Option Addr} {n c n' c' g d : Nat} {p : Prop} [Decidable p] (h : (Value.slice (if p then sa else sa.map (fun x => x.add d)) n c).ownBlock = some g) : (Value.slice sa n' c').ownBlock = some g := by
  by_cases hp : p
  · rw [if_pos hp] at h
    cases sa with
    | none => cases h
    | some a => exact h
  · rw [if_neg hp] at h
    cases sa with
    | none => cases h
    | some a =>
      simp [Value.ownBlock, Addr.add] at h ⊢
      split at h <;> exact h
end Go.Proofs.Ytpgaepilnbjhbaa
