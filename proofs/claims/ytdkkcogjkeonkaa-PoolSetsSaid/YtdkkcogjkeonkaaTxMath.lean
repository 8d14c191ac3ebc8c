/- Rows that rise: what stands below and above a thing, with one more, with one less; two of the same things are the same. -/
import Derived.Test.YtdkkcogjkeonkaaBig
set_option maxRecDepth 100000
set_option maxHeartbeats 4000000
set_option linter.unusedVariables false
namespace Go.Proofs.Ytdkkcogjkeonkaa.Tx
/-- An order. -/
structure Ord {α : Type} (lt : α → α → Bool) : Prop where
  irr : ∀ x, lt x x = false
  tr : ∀ {x y z}, lt x y = true → lt y z = true → lt x z = true
  tri : ∀ {x y}, lt x y = false → lt y x = false → x = y
variable {α : Type} {lt : α → α → Bool}
abbrev Rise (lt : α → α → Bool) (l : List α) : Prop := l.Pairwise (fun a b => lt a b = true)
theorem Ord.asy (O : Ord lt) {x y : α} (h : lt x y = true) : lt y x = false := by
  cases h2 : lt y x with
  | false => rfl
  | true => have := O.tr h h2; rw [O.irr] at this; cases this
theorem Ord.ne (O : Ord lt) {x y : α} (h : lt x y = true) : x ≠ y := by
  rintro rfl; rw [O.irr] at h; cases h
/-- Rising rows of the same things are the same. -/
theorem Rise.uniq (O : Ord lt) : ∀ {l l' : List α}, Rise lt l → Rise lt l' → (∀ x, x ∈ l ↔ x ∈ l') → l = l'
  | [], [], _, _, _ => rfl
  | [], y :: t, _, _, h => absurd ((h y).2 (List.mem_cons_self ..)) (by simp)
  | x :: s, [], _, _, h => absurd ((h x).1 (List.mem_cons_self ..)) (by simp)
  | x :: s, y :: t, h1, h2, h => by
    have a1 := (List.pairwise_cons.1 h1)
    have a2 := (List.pairwise_cons.1 h2)
    have hxy : x = y := by
      rcases List.mem_cons.1 ((h x).1 (List.mem_cons_self ..)) with e | e
      · exact e
      · rcases List.mem_cons.1 ((h y).2 (List.mem_cons_self ..)) with e' | e'
        · exact e'.symm
        · have := O.tr (a2.1 x e) (a1.1 y e'); rw [O.irr] at this; cases this
    subst hxy
    congr 1
    refine Rise.uniq O a1.2 a2.2 (fun z => ⟨fun hz => ?_, fun hz => ?_⟩)
    · rcases List.mem_cons.1 ((h z).1 (List.mem_cons_of_mem _ hz)) with e | e
      · subst e; have := a1.1 z hz; rw [O.irr] at this; cases this
      · exact e
    · rcases List.mem_cons.1 ((h z).2 (List.mem_cons_of_mem _ hz)) with e | e
      · subst e; have := a2.1 z hz; rw [O.irr] at this; cases this
      · exact e
/-- What stands above a thing. -/
def above (lt : α → α → Bool) (l : List α) (x : α) : List α := l.filter (fun y => lt x y)
/-- Where a thing stands, or would stand. -/
structure At (lt : α → α → Bool) (l : List α) (x : α) (p : Nat) : Prop where
  le : p ≤ l.length
  low : ∀ m y, m < p → l[m]? = some y → lt y x = true
  high : ∀ m y, p ≤ m → l[m]? = some y → lt y x = false
theorem At.low' {l : List α} {x : α} {p : Nat} (h : At lt l x p) : ∀ y ∈ l.take p, lt y x = true := fun y hy => by
  obtain ⟨m, hm⟩ := List.mem_iff_getElem?.1 hy
  have hlt := (List.getElem?_eq_some_iff.1 hm).1
  rw [List.length_take] at hlt
  exact h.low m y (by omega) (by rw [List.getElem?_take_of_lt (by omega)] at hm; exact hm)
theorem At.high' {l : List α} {x : α} {p : Nat} (h : At lt l x p) : ∀ y ∈ l.drop p, lt y x = false := fun y hy => by
  obtain ⟨m, hm⟩ := List.mem_iff_getElem?.1 hy
  rw [List.getElem?_drop] at hm
  exact h.high (p + m) y (by omega) hm
/-- It stands there, if it is there. -/
theorem At.mem (O : Ord lt) {l : List α} {x : α} {p : Nat} (h : At lt l x p) (hr : Rise lt l) : x ∈ l ↔ l[p]? = some x := by
  refine ⟨fun hx => ?_, fun hx => List.mem_of_getElem? hx⟩
  obtain ⟨m, hm⟩ := List.mem_iff_getElem?.1 hx
  have h1 : p ≤ m := by
    apply Decidable.byContradiction; intro hn
    have := h.low m x (by omega) hm; rw [O.irr] at this; cases this
  rcases Nat.lt_or_ge p m with h2 | h2
  · have hl := (List.getElem?_eq_some_iff.1 hm).1
    have hp : l[p]? = some (l[p]'(by omega)) := List.getElem?_eq_getElem (by omega)
    have h3 := h.high p _ (Nat.le_refl _) hp
    have h4 : lt (l[p]'(by omega)) (l[m]'hl) = true := List.pairwise_iff_getElem.1 hr p m (by omega) hl h2
    rw [(List.getElem?_eq_some_iff.1 hm).2, h3] at h4; cases h4
  · obtain rfl : p = m := by omega
    exact hm
theorem At.drop_above (O : Ord lt) {l : List α} {x : α} {p : Nat} (h : At lt l x p) (hr : Rise lt l) (hx : l[p]? ≠ some x) : l.drop p = above lt l x := by
  have e : l = l.take p ++ l.drop p := (List.take_append_drop p l).symm
  have h1 : above lt (l.take p) x = [] := List.filter_eq_nil_iff.2 (fun y hy => by rw [O.asy (h.low' y hy)]; simp)
  have h2 : above lt (l.drop p) x = l.drop p := List.filter_eq_self.2 (fun y hy => by
    cases hxy : lt x y with
    | true => rfl
    | false =>
      have := O.tri hxy (h.high' y hy)
      subst this
      exact absurd ((h.mem O hr).1 (List.mem_of_mem_drop hy)) hx)
  calc l.drop p = above lt (l.take p) x ++ above lt (l.drop p) x := by rw [h1, h2]; rfl
    _ = above lt (l.take p ++ l.drop p) x := by unfold above; rw [List.filter_append]
    _ = above lt l x := by rw [← e]
theorem At.drop_above1 (O : Ord lt) {l : List α} {x : α} {p : Nat} (h : At lt l x p) (hr : Rise lt l) (hx : l[p]? = some x) : l.drop (p + 1) = above lt l x := by
  have hl := (List.getElem?_eq_some_iff.1 hx).1
  have e1 : l.drop p = x :: l.drop (p + 1) := by rw [List.drop_eq_getElem_cons hl, (List.getElem?_eq_some_iff.1 hx).2]
  have e : l = l.take p ++ x :: l.drop (p + 1) := by rw [← e1]; exact (List.take_append_drop p l).symm
  have h1 : above lt (l.take p) x = [] := List.filter_eq_nil_iff.2 (fun y hy => by rw [O.asy (h.low' y hy)]; simp)
  have hr2 : Rise lt (x :: l.drop (p + 1)) := by rw [← e1]; exact hr.sublist (List.drop_sublist _ _)
  have h2 : above lt (x :: l.drop (p + 1)) x = l.drop (p + 1) := by
    unfold above
    rw [List.filter_cons, if_neg (by rw [O.irr]; simp)]
    exact List.filter_eq_self.2 (fun y hy => (List.pairwise_cons.1 hr2).1 y hy)
  calc l.drop (p + 1) = above lt (l.take p) x ++ above lt (x :: l.drop (p + 1)) x := by rw [h1, h2]; rfl
    _ = above lt (l.take p ++ x :: l.drop (p + 1)) x := by unfold above; rw [List.filter_append]
    _ = above lt l x := by rw [← e]
/-- Behind the first one above a thing, those above that. -/
theorem above_tail (O : Ord lt) {l : List α} {x y : α} {t : List α} (hr : Rise lt l) (h : above lt l x = y :: t) : above lt l y = t := by
  have hy : lt x y = true := by
    have := List.mem_cons_self (a := y) (l := t)
    rw [← h] at this
    exact (List.mem_filter.1 this).2
  have hr2 : Rise lt (y :: t) := by rw [← h]; exact hr.sublist List.filter_sublist
  have h1 : above lt l y = above lt (above lt l x) y := by
    unfold above
    rw [List.filter_filter]
    refine List.filter_congr (fun z _ => ?_)
    cases hz : lt y z with
    | false => simp
    | true => simp [O.tr hy hz]
  rw [h1, h]
  unfold above
  rw [List.filter_cons, if_neg (by rw [O.irr]; simp)]
  exact List.filter_eq_self.2 (fun z hz => (List.pairwise_cons.1 hr2).1 z hz)
/-- With one more. -/
def ins (l : List α) (p : Nat) (x : α) : List α := l.take p ++ x :: l.drop p
theorem ins_mem {l : List α} {p : Nat} {x y : α} : y ∈ ins l p x ↔ y = x ∨ y ∈ l := by
  unfold ins
  constructor
  · intro h
    rcases List.mem_append.1 h with h | h
    · exact .inr (List.mem_of_mem_take h)
    · rcases List.mem_cons.1 h with h | h
      · exact .inl h
      · exact .inr (List.mem_of_mem_drop h)
  · rintro (rfl | h)
    · simp
    · rw [← List.take_append_drop p l] at h
      rcases List.mem_append.1 h with h | h
      · exact List.mem_append.2 (.inl h)
      · exact List.mem_append.2 (.inr (List.mem_cons_of_mem _ h))
theorem At.ins_rise (O : Ord lt) {l : List α} {x : α} {p : Nat} (h : At lt l x p) (hr : Rise lt l) (hx : l[p]? ≠ some x) : Rise lt (ins l p x) := by
  have e := (List.take_append_drop p l)
  have hr' : Rise lt (l.take p ++ l.drop p) := by rw [e]; exact hr
  obtain ⟨r1, r2, r3⟩ := List.pairwise_append.1 hr'
  have ha : ∀ y ∈ l.drop p, lt x y = true := fun y hy => by
    rw [h.drop_above O hr hx] at hy
    exact (List.mem_filter.1 hy).2
  refine List.pairwise_append.2 ⟨r1, List.pairwise_cons.2 ⟨ha, r2⟩, fun a hA b hB => ?_⟩
  rcases List.mem_cons.1 hB with rfl | hB
  · exact h.low' a hA
  · exact r3 a hA b hB
/-- With one less. -/
def del (l : List α) (p : Nat) : List α := l.take p ++ l.drop (p + 1)
theorem del_rise {l : List α} (p : Nat) (hr : Rise lt l) : Rise lt (del l p) := by
  have : List.Sublist (del l p) l := by
    conv => rhs; rw [← List.take_append_drop p l]
    exact List.Sublist.append (List.Sublist.refl _) (by rw [← List.drop_drop]; exact List.drop_sublist _ _)
  exact hr.sublist this
theorem del_mem (O : Ord lt) {l : List α} {p : Nat} {x y : α} (hr : Rise lt l) (hx : l[p]? = some x) : y ∈ del l p ↔ y ≠ x ∧ y ∈ l := by
  have hl := (List.getElem?_eq_some_iff.1 hx).1
  have e1 : l.drop p = x :: l.drop (p + 1) := by rw [List.drop_eq_getElem_cons hl, (List.getElem?_eq_some_iff.1 hx).2]
  have e : l.take p ++ x :: l.drop (p + 1) = l := by rw [← e1]; exact List.take_append_drop p l
  have hr2 : Rise lt (l.take p ++ x :: l.drop (p + 1)) := by rw [e]; exact hr
  obtain ⟨_, r2, r3⟩ := List.pairwise_append.1 hr2
  have r4 := (List.pairwise_cons.1 r2).1
  constructor
  · intro h
    rcases List.mem_append.1 h with h | h
    · exact ⟨O.ne (r3 y h x (List.mem_cons_self ..)), List.mem_of_mem_take h⟩
    · exact ⟨fun e => O.ne (r4 y h) e.symm, List.mem_of_mem_drop h⟩
  · rintro ⟨hne, h⟩
    rw [← e] at h
    rcases List.mem_append.1 h with h | h
    · exact List.mem_append.2 (.inl h)
    · rcases List.mem_cons.1 h with h | h
      · exact absurd h hne
      · exact List.mem_append.2 (.inr h)
end Go.Proofs.Ytdkkcogjkeonkaa.Tx
