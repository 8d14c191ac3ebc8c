/- Rows of cells that the law itself makes: a leaf's cells as a branch's, and back. -/
import Derived.Test.YtdkkcogjkeonkaaRefSum
import Derived.Test.YtdkkcogjkeonkaaSteps
import Derived.OwnWalk
set_option maxRecDepth 100000
set_option maxHeartbeats 4000000
set_option linter.unusedVariables false
namespace Go.Proofs.Ytdkkcogjkeonkaa
open Go.RowKit
open Sl (Cl Kd)
def toK (c : Cl) : Kd := ⟨c.key, c.chain⟩
def toC (k : Kd) : Cl := ⟨k.key, [], k.page, 0⟩
def cellsC (c : Cl) : List Value := [.string (str c.key), .string (str c.val), .int .u32 c.chain, .int .u32 c.long]
def cellsK (k : Kd) : List Value := [.string (str k.key), .int .u32 k.page]
theorem flat_at {α : Type} (f : α → List Value) (s : Nat) (hf : ∀ x, (f x).length = s) : ∀ (l : List α) (j i : Nat) (p : α), l[j]? = some p → i < s → (l.flatMap f)[j * s + i]? = (f p)[i]?
  | [], j, i, p, h, _ => by simp at h
  | q :: l, 0, i, p, h, hi => by
    simp at h
    subst h
    rw [List.flatMap_cons, List.getElem?_append_left (by rw [hf]; omega)]
    simp
  | q :: l, j + 1, i, p, h, hi => by
    rw [List.flatMap_cons, List.getElem?_append_right (by rw [hf, Nat.add_mul]; omega)]
    rw [show (j + 1) * s + i - (f q).length = j * s + i by rw [hf, Nat.add_mul]; omega]
    exact flat_at f s hf l j i p (by simpa using h) hi
theorem SlC.nil (w : World) : SlC w (.slice none 0 0) [] := ⟨none, 0, 0, 0, rfl, .inl rfl, fun j p h => by simp at h⟩
theorem SlK.nil (w : World) : SlK w (.slice none 0 0) [] := ⟨none, 0, 0, 0, rfl, .inl rfl, fun j p h => by simp at h⟩
theorem flat_len {α : Type} (f : α → List Value) (s : Nat) (hf : ∀ x, (f x).length = s) (l : List α) : (l.flatMap f).length = l.length * s := by
  induction l with
  | nil => simp
  | cons p l ih => rw [List.flatMap_cons, List.length_append, ih, hf, List.length_cons, Nat.add_mul]; omega
theorem cellsC_len (c : Cl) : (cellsC c).length = 4 := rfl
theorem cellsK_len (c : Kd) : (cellsK c).length = 2 := rfl
theorem SlC.own {w : World} {B : Nat} {e : TypeId} {v : Value} {l : List Cl} (h : w.ownsRow B e 4 v l.length (l.flatMap cellsC)) : SlC w v l := by
  have hw := h
  obtain ⟨_, h1⟩ := h
  rcases h1 with ⟨rfl, h0⟩ | ⟨g, cap, cur, rfl, _⟩
  · obtain rfl : l = [] := List.length_eq_zero_iff.1 h0
    exact SlC.nil w
  · refine ⟨_, g, 0, cap, rfl, .inr rfl, fun j p hj => ?_⟩
    have hlt := (List.getElem?_eq_some_iff.1 hj).1
    have c := fun i (hi : i < 4) => (hw.cellAt (j * 4 + i) (by omega)).trans (flat_at cellsC 4 cellsC_len l j i p hj hi)
    refine ⟨?_, ?_, ?_, ?_⟩
    · have := c 0 (by omega); simpa [cellsC] using this
    · have := c 1 (by omega); simpa [cellsC, Nat.add_assoc] using this
    · have := c 2 (by omega); simpa [cellsC, Nat.add_assoc] using this
    · have := c 3 (by omega); simpa [cellsC, Nat.add_assoc] using this
theorem SlK.own {w : World} {B : Nat} {e : TypeId} {v : Value} {l : List Kd} (h : w.ownsRow B e 2 v l.length (l.flatMap cellsK)) : SlK w v l := by
  have hw := h
  obtain ⟨_, h1⟩ := h
  rcases h1 with ⟨rfl, h0⟩ | ⟨g, cap, cur, rfl, _⟩
  · obtain rfl : l = [] := List.length_eq_zero_iff.1 h0
    exact SlK.nil w
  · refine ⟨_, g, 0, cap, rfl, .inr rfl, fun j p hj => ?_⟩
    have hlt := (List.getElem?_eq_some_iff.1 hj).1
    have c := fun i (hi : i < 2) => (hw.cellAt (j * 2 + i) (by omega)).trans (flat_at cellsK 2 cellsK_len l j i p hj hi)
    refine ⟨?_, ?_⟩
    · have := c 0 (by omega); simpa [cellsK] using this
    · have := c 1 (by omega); simpa [cellsK, Nat.add_assoc] using this
theorem cellsK_new (w : World) (k : Kd) (T : TypeId) : ∀ (j : Nat) u, (cellsK k)[j]? = some u →
    (w.alloc (.cells #[.string (str k.key), .int .u32 k.page] T)).cell? ((⟨w.heap.size, 0, none⟩ : Addr).add j) = some u := by
  intro j u hj
  match j, hj with
  | 0, hj => simp [cellsK] at hj; subst hj; simp [Addr.add]
  | 1, hj => simp [cellsK] at hj; subst hj; simp [Addr.add]
  | (j + 2), hj => simp [cellsK] at hj
theorem cellsC_new (w : World) (c : Cl) (T : TypeId) : ∀ (j : Nat) u, (cellsC c)[j]? = some u →
    (w.alloc (.cells #[.string (str c.key), .string (str c.val), .int .u32 c.chain, .int .u32 c.long] T)).cell? ((⟨w.heap.size, 0, none⟩ : Addr).add j) = some u := by
  intro j u hj
  match j, hj with
  | 0, hj => simp [cellsC] at hj; subst hj; simp [Addr.add]
  | 1, hj => simp [cellsC] at hj; subst hj; simp [Addr.add]
  | 2, hj => simp [cellsC] at hj; subst hj; simp [Addr.add]
  | 3, hj => simp [cellsC] at hj; subst hj; simp [Addr.add]
  | (j + 4), hj => simp [cellsC] at hj
theorem cellsK_one (k : Kd) : ∀ u ∈ cellsK k, u.oneCell' = true := by
  intro u hu
  simp [cellsK] at hu
  rcases hu with rfl | rfl <;> rfl
theorem cellsC_one (c : Cl) : ∀ u ∈ cellsC c, u.oneCell' = true := by
  intro u hu
  simp [cellsC] at hu
  rcases hu with rfl | rfl | rfl | rfl <;> rfl
/-- A row that was made. -/
def MadeK (w : World) (l : List Kd) (e : Ending) (w' : World) : Prop := ∃ v, e = .returned v ∧ SlK w' v l ∧ Below w.heap.size w w'
def MadeC (w : World) (l : List Cl) (e : Ending) (w' : World) : Prop := ∃ v, e = .returned v ∧ SlC w' v l ∧ Below w.heap.size w w'
theorem map_take_snoc {α β : Type} (f : α → β) (l : List α) (k : Nat) (x : α) (h : l[k]? = some x) : (l.take (k + 1)).map f = (l.take k).map f ++ [f x] := by
  obtain ⟨hk, he⟩ := List.getElem?_eq_some_iff.1 h
  rw [List.take_succ_eq_append_getElem hk, he, List.map_append]; rfl
end Go.Proofs.Ytdkkcogjkeonkaa
