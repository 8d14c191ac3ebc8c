/- Each once, of a sorted row. -/
import Derived.Test.YtdkkcogjkeonkaaTxRow
import Derived.Test.YtdkkcogjkeonkaaSlMem
import Derived.Laws.OwnMore
import Derived.Lib.SlicesCompact
set_option maxRecDepth 100000
set_option maxHeartbeats 4000000
set_option linter.unusedVariables false
namespace Go.Proofs.Ytdkkcogjkeonkaa.Tx
variable {α : Type} [DecidableEq α]
def cmpn (l : List α) : Nat → List α
  | 0 => []
  | 1 => l.take 1
  | j + 2 => if l[j + 1]? = l[j]? then cmpn l (j + 1) else cmpn l (j + 1) ++ (l[j + 1]?).toList
theorem take_snoc {α : Type} {l : List α} {k : Nat} {y : α} (h : l[k]? = some y) : l.take (k + 1) = l.take k ++ [y] := by rw [List.take_add_one, h]; rfl
theorem cmpn_same {l : List α} {j : Nat} {x : α} (h : l[j + 1]? = some x) (h2 : l[j]? = some x) : cmpn l (j + 2) = cmpn l (j + 1) := by
  rw [cmpn, if_pos (by rw [h, h2])]
theorem cmpn_next {l : List α} {j : Nat} {x y : α} (h : l[j + 1]? = some x) (h2 : l[j]? = some y) (hn : x ≠ y) : cmpn l (j + 2) = cmpn l (j + 1) ++ [x] := by
  rw [cmpn, if_neg (by rw [h, h2]; simpa using hn), h]; rfl
theorem cmpn_len (l : List α) : ∀ j, (cmpn l j).length ≤ j
  | 0 => Nat.le_refl _
  | 1 => by unfold cmpn; rw [List.length_take]; omega
  | j + 2 => by
    unfold cmpn
    have := cmpn_len l (j + 1)
    split
    · omega
    · rw [List.length_append]
      cases l[j + 1]? <;> simp <;> omega
theorem cmpn_rise {lt : α → α → Bool} (O : Ord lt) (l : List α) (hs : l.Pairwise fun a b => lt b a = false) : ∀ j, j ≤ l.length → Rise lt (cmpn l j) ∧ ∀ z, z ∈ cmpn l j ↔ z ∈ l.take j
  | 0, _ => ⟨List.Pairwise.nil, fun z => by simp [cmpn]⟩
  | 1, h => by
    refine ⟨?_, fun z => Iff.rfl⟩
    unfold cmpn
    match l, h with
    | x :: t, _ => simp
  | j + 2, h => by
    obtain ⟨h1, h2⟩ := cmpn_rise O l hs (j + 1) (by omega)
    have e1 : l[j + 1]? = some l[j + 1] := List.getElem?_eq_getElem (by omega)
    have e0 : l[j]? = some l[j] := List.getElem?_eq_getElem (by omega)
    have hge : ∀ i z, i < j + 1 → l[i]? = some z → lt l[j + 1] z = false := fun i z hi hz => by
      have := List.pairwise_iff_getElem.1 hs i (j + 1) (by omega) (by omega) (by omega)
      rw [(List.getElem?_eq_some_iff.1 hz).2] at this
      exact this
    have hge0 : ∀ i z, i < j → l[i]? = some z → lt l[j] z = false := fun i z hi hz => by
      have := List.pairwise_iff_getElem.1 hs i j (by omega) (by omega) (by omega)
      rw [(List.getElem?_eq_some_iff.1 hz).2] at this
      exact this
    generalize l[j + 1] = x at e1 hge
    generalize l[j] = y at e0 hge0
    have hm : ∀ z, z ∈ l.take (j + 2) ↔ z ∈ l.take (j + 1) ∨ z = x := fun z => by rw [take_snoc e1]; simp
    by_cases hxy : x = y
    · subst hxy
      rw [cmpn_same e1 e0]
      refine ⟨h1, fun z => ?_⟩
      rw [h2, hm]
      constructor
      · exact .inl
      · rintro (h | rfl)
        · exact h
        · rw [take_snoc e0]; simp
    · rw [cmpn_next e1 e0 hxy]
      have hyx : lt y x = true := by
        cases hq : lt y x with
        | true => rfl
        | false => exact absurd (O.tri (hge j y (by omega) e0) hq) hxy
      have hle : ∀ z, z ∈ l.take (j + 1) → lt z x = true := by
        intro z hz
        rw [take_snoc e0] at hz
        rcases List.mem_append.1 hz with hz | hz
        · obtain ⟨i, hi⟩ := List.getElem?_of_mem hz
          have hij : i < j := by
            have := (List.getElem?_eq_some_iff.1 hi).1
            rw [List.length_take] at this; omega
          rw [List.getElem?_take_of_lt hij] at hi
          have hyz := hge0 i z hij hi
          cases hzy : lt z y with
          | true => exact O.tr hzy hyx
          | false => rw [← O.tri hyz hzy]; exact hyx
        · simp at hz; subst hz; exact hyx
      refine ⟨?_, fun z => ?_⟩
      · refine List.pairwise_append.2 ⟨h1, by simp, fun a ha b hb => ?_⟩
        simp at hb; subst hb
        exact hle a ((h2 a).1 ha)
      · rw [List.mem_append, h2, hm]; simp
end Go.Proofs.Ytdkkcogjkeonkaa.Tx
namespace Go.Proofs.Ytdkkcogjkeonkaa
open Go.RowKit Go.Sort
variable {α : Type} {enc : α → Value} {t : TypeId} {w w' : World} {B B' : Nat} {v : Value} {l : List α}
theorem some_atP {α : Type} {l : List α} {k : Nat} (h : k < l.length) : ∃ x, l[k]? = some x := ⟨l[k], List.getElem?_eq_getElem h⟩
theorem RowP.set {g c : Nat} (h : RowP enc t w B (.slice (some ⟨g, 0, none⟩) l.length c) l) (i : Nat) (x : α) : RowP enc t (w.setCell ⟨g, i, none⟩ (enc x)) B (.slice (some ⟨g, 0, none⟩) (l.set i x).length c) (l.set i x) := by
  have h' : w.ownsRow B t 1 (.slice (some ⟨g, 0, none⟩) l.length c) l.length (l.map enc) := h
  have := (h'.stored i (enc x)).1
  show World.ownsRow _ _ _ _ _ _ _
  rw [List.length_set, List.map_set]
  exact this
theorem rest_atP {α : Type} {A m : List α} {t : Nat} (h : A.length ≤ t) : (A ++ m.drop A.length)[t]? = m[t]? := by
  rw [List.getElem?_append_right h, List.getElem?_drop]
  congr 1
  omega
theorem set_restP {α : Type} {A m : List α} {x : α} (h : A.length < m.length) : (A ++ m.drop A.length).set A.length x = (A ++ [x]) ++ m.drop (A ++ [x]).length := by
  rw [List.set_append_right _ _ (Nat.le_refl _), Nat.sub_self, List.drop_eq_getElem_cons h, List.set_cons_zero]
  simp
/-- What is behind a place is cleared; what stands ahead of it stays. -/
theorem RowP.cleared {g c n : Nat} {A S : List α} (h : RowP enc t w B (.slice (some ⟨g, 0, none⟩) n c) (A ++ S)) (hn : (A ++ S).length = n) (vs : List Value) (hvs : vs.length = S.length) :
    RowP enc t (w.setCells g A.length vs) B (.slice (some ⟨g, 0, none⟩) A.length c) A ∧ Below B w (w.setCells g A.length vs) ∧ (∀ k, k ≠ g → (w.setCells g A.length vs).heap[k]? = w.heap[k]?) ∧ w.heap.size ≤ (w.setCells g A.length vs).heap.size := by
  rcases h.open with ⟨h0, _⟩ | ⟨g', cap', cur, hv, hB, hb, hc1, hc2, hc3, hc4⟩
  · cases h0
  · cases hv
    have hl : (A ++ S).length = A.length + S.length := List.length_append
    have hsz : A.length + vs.length ≤ cur.size := by omega
    rw [setCells_row g t _ _ cur w hb hsz]
    have hg := setRow_heap w g cur (cur.toList.take A.length ++ vs ++ cur.toList.drop (A.length + vs.length)).toArray t _ hb
    refine ⟨.mk hB hg (by omega) hc2 ?_ ?_, below_setRow (Below.refl _ _) hB _, fun k hk => setRow_other w g k _ hk, by simp [World.setRow]⟩
    · have h9 : cur.toList.length = cur.size := Array.length_toList
      simp only [List.size_toArray, List.length_append, List.length_take, List.length_drop]
      omega
    · have h9 : cur.toList.length = cur.size := Array.length_toList
      show List.take A.length (cur.toList.take A.length ++ vs ++ cur.toList.drop (A.length + vs.length)) = _
      rw [List.append_assoc, List.take_append_of_le_length (by rw [List.length_take]; omega), List.take_take, Nat.min_self]
      have := congrArg (List.take A.length) hc4
      rw [List.take_take, Nat.min_eq_left (by omega), List.map_append, List.take_append_of_le_length (by simp)] at this
      rw [this]
      exact List.take_of_length_le (by simp)
end Go.Proofs.Ytdkkcogjkeonkaa
