/- Rows of parts that a call makes itself; the contracts of light, plain and same. -/
import Derived.Test.YtfoijhofpjaldaaDoorAwake
import Derived.OwnWalk
import Derived.Laws.OwnMore
set_option maxRecDepth 100000
set_option maxHeartbeats 4000000
set_option linter.unusedVariables false
namespace Go.Proofs.YtfoijhofpjaldaaDoor
open Go.RowKit
theorem info41 : (Tryd.prog.info? 30).map (fun i => (i.zero, i.size, i.bytes)) = some (some (.agg #[.bool false, .int .u64 0, .string ByteArray.empty]), 3, 32) := by kernel_rfl
theorem flat_at : ∀ (l : List Ord.P) (j i : Nat) (p : Ord.P), l[j]? = some p → i < 3 → (l.flatMap cellsP)[j * 3 + i]? = (cellsP p)[i]?
  | [], j, i, p, h, _ => by simp at h
  | q :: l, 0, i, p, h, hi => by
    simp at h
    subst h
    rw [List.flatMap_cons, List.getElem?_append_left (by simp [cellsP]; omega)]
    simp
  | q :: l, j + 1, i, p, h, hi => by
    rw [List.flatMap_cons, List.getElem?_append_right (by simp [cellsP]; omega)]
    rw [show (j + 1) * 3 + i - (cellsP q).length = j * 3 + i by simp [cellsP]; omega]
    exact flat_at l j i p (by simpa using h) hi
theorem flat_length (l : List Ord.P) : (l.flatMap cellsP).length = l.length * 3 := by
  induction l with
  | nil => rfl
  | cons p l ih => rw [List.flatMap_cons, List.length_append, ih]; simp [cellsP]; omega
/-- A row that the call owns shows its parts. -/
theorem Sl.own {w : World} {B : Nat} {e : TypeId} {v : Value} {l : List Ord.P} (h : w.ownsRow B e 3 v l.length (l.flatMap cellsP)) : Sl w v l := by
  have hw := h
  obtain ⟨_, h1⟩ := h
  rcases h1 with ⟨rfl, h0⟩ | ⟨g, cap, cur, rfl, _⟩
  · obtain rfl : l = [] := List.length_eq_zero_iff.1 h0
    exact Sl.nil w
  · refine ⟨_, g, 0, cap, rfl, .inr rfl, fun j p hj => ?_⟩
    have hlt := (List.getElem?_eq_some_iff.1 hj).1
    have c := fun i (hi : i < 3) => (hw.cellAt (j * 3 + i) (by omega)).trans (flat_at l j i p hj hi)
    refine ⟨?_, ?_, ?_⟩
    · have := c 0 (by omega); simpa [cellsP] using this
    · have := c 1 (by omega); simpa [cellsP, Nat.add_assoc] using this
    · have := c 2 (by omega); simpa [cellsP, Nat.add_assoc] using this
theorem own_below {w w' : World} {B B' : Nat} {e : TypeId} {s : Nat} {v : Value} {n : Nat} {xs : List Value} (h : w.ownsRow B e s v n xs) (hb : Below B' w w') (hB : w.heap.size ≤ B') : w'.ownsRow B e s v n xs := by
  obtain ⟨h0, h1⟩ := h
  refine ⟨h0, ?_⟩
  rcases h1 with h1 | ⟨g, cap, cur, hv, hg, hh, rest⟩
  · exact .inl h1
  · have hlt : g < w.heap.size := by
      rcases Nat.lt_or_ge g w.heap.size with h' | h'
      · exact h'
      · rw [Array.getElem?_eq_none h'] at hh; cases hh
    exact .inr ⟨g, cap, cur, hv, hg, by rw [hb.block g (by omega), hh], rest⟩
inductive LightOut (l : List Ord.P) (w : World) (e : Ending) (w' : World) : Prop
  | mk (x : Bool) (he : e = .returned (.bool x)) (hx : x = true → l.length ≤ 40 ∧ ∀ p ∈ l, p.s.length ≤ 400) (hb : Below w.heap.size w w')
inductive RowOut (l : List Ord.P) (w : World) (e : Ending) (w' : World) : Prop
  | mk (a : Option Addr) (n c : Nat) (hn : n = l.length) (hc : n ≤ c) (he : e = .returned (.slice a n c)) (hs : Sl w' (.slice a n c) l) (hb : Below w.heap.size w w')
theorem flat_one (p : Ord.P) : List.flatMap cellsP [p] = cellsP p := by simp
theorem plain_snoc (l : List Ord.P) (k : Nat) (p : Ord.P) (h : l[k]? = some p) : (l.take (k + 1)).map Ord.P.plain = (l.take k).map Ord.P.plain ++ [p.plain] := by
  obtain ⟨hk, he⟩ := List.getElem?_eq_some_iff.1 h
  rw [List.take_succ_eq_append_getElem hk, List.map_append, he]; rfl
inductive SameOut (l r : List Ord.P) (w : World) (e : Ending) (w' : World) : Prop
  | mk (x : Bool) (he : e = .returned (.bool x)) (hx : x = true ↔ l = r) (hb : Below w.heap.size w w')
theorem same_next (l r : List Ord.P) (k : Nat) (p q : Ord.P) (hp : l[k]? = some p) (hq : r[k]? = some q) (h : l.take k = r.take k) (he : p = q) : l.take (k + 1) = r.take (k + 1) := by
  obtain ⟨h1, h2⟩ := List.getElem?_eq_some_iff.1 hp
  obtain ⟨h3, h4⟩ := List.getElem?_eq_some_iff.1 hq
  rw [List.take_succ_eq_append_getElem h1, List.take_succ_eq_append_getElem h3, h, h2, h4, he]
theorem Sl.take {w : World} {a : Option Addr} {n c : Nat} {l : List Ord.P} (h : Sl w (.slice a n c) l) (k : Nat) (hk : k ≤ l.length) : Sl w (.slice a k c) (l.take k) := by
  obtain ⟨a', b, o, c', hv, ha, hx⟩ := h
  cases hv
  refine ⟨a, b, o, c, by rw [List.length_take, Nat.min_eq_left hk], ?_, fun j p hj => ?_⟩
  · rcases ha with h | h
    · subst h; exact .inl (by simp)
    · exact .inr h
  · have hlt : j < k := by
      have := (List.getElem?_eq_some_iff.1 hj).1
      rw [List.length_take] at this
      omega
    rw [List.getElem?_take_of_lt hlt] at hj
    exact hx j p hj
end Go.Proofs.YtfoijhofpjaldaaDoor
