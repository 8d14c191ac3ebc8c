/- The contract of Less, and of the laws' own example. -/
import Derived.Test.YtfoijhofpjaldaaDoorKey
import Derived.Deep.RegionWith
import Derived.Deep.DeepCutAuto
import Derived.Deep.CutRange
set_option maxRecDepth 100000
set_option maxHeartbeats 4000000
set_option linter.unusedVariables false
namespace Go.Proofs.YtfoijhofpjaldaaDoor
open Go.RowKit
theorem Sl.nil (w : World) : Sl w (.slice none 0 0) [] := ⟨none, 0, 0, 0, rfl, .inl rfl, fun j p hj => by simp at hj⟩
theorem Sl.one (w : World) (p : Ord.P) (T : TypeId) : Sl (w.alloc (.cells #[.bool p.t, .int .u64 p.n, .string (str p.s)] T)) (.slice (some ⟨w.heap.size, 0, none⟩) 1 1) [p] := by
  refine ⟨_, w.heap.size, 0, 1, rfl, .inr rfl, fun j q hj => ?_⟩
  match j, hj with
  | 0, hj =>
    simp at hj
    subst hj
    refine ⟨?_, ?_, ?_⟩ <;> simp
theorem lessR_cons (p q : Ord.P) (l m : List Ord.P) : Ord.lessR (p :: l) (q :: m) = if Ord.lessP p q then true else if Ord.lessP q p then false else Ord.lessR l m := rfl
theorem drop_cons (l : List Ord.P) (k : Nat) (p : Ord.P) (h : l[k]? = some p) : l.drop k = p :: l.drop (k + 1) := by
  obtain ⟨hk, he⟩ := List.getElem?_eq_some_iff.1 h
  rw [List.drop_eq_getElem_cons hk, he]
theorem lessR_end (l m : List Ord.P) (k : Nat) (hk : k = min l.length m.length) : Ord.lessR (l.drop k) (m.drop k) = decide ((l.length : Int) < (m.length : Int)) := by
  rcases Nat.lt_or_ge l.length m.length with h | h
  · have h1 : l.drop k = [] := List.drop_of_length_le (by omega)
    rw [h1]
    cases hm : m.drop k with
    | nil => have := congrArg List.length hm; rw [List.length_drop] at this; simp at this; omega
    | cons a x => simp [Ord.lessR]; omega
  · have h1 : m.drop k = [] := List.drop_of_length_le (by omega)
    rw [h1]
    have h2 : ¬ ((l.length : Int) < (m.length : Int)) := by omega
    rw [decide_eq_false h2]
    cases l.drop k <;> rfl
end Go.Proofs.YtfoijhofpjaldaaDoor
