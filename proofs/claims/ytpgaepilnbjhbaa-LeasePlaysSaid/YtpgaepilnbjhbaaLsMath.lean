/- Plain mathematics of what is lent: rows in an order, what is put into them, what is cut. -/
import Derived.Sort.Walk0
import Derived.Lib.Bytealg
set_option maxRecDepth 100000
set_option maxHeartbeats 4000000
set_option linter.unusedVariables false
namespace Go.Proofs.Ytpgaepilnbjhbaa.Ls
abbrev Txt := List UInt8
structure Ln where
  q : Txt
  id : Nat
  t : Nat
deriving DecidableEq
structure Ms where
  s : Txt
  t : Nat
deriving DecidableEq
variable {α : Type}
/-- Of two, neither is ahead of itself through a third. -/
structure WO (lt : α → α → Bool) : Prop where
  asy : ∀ {a b}, lt a b = true → lt b a = false
  nt : ∀ {a b x}, lt b a = false → lt b x = true → lt a x = true
abbrev Srt (lt : α → α → Bool) (l : List α) : Prop := l.Pairwise (fun a b => lt b a = false)
abbrev Uni (same : α → α → Bool) (l : List α) : Prop := l.Pairwise (fun a b => same a b = false)
def free (same : α → α → Bool) (x : α) (l : List α) : List α := l.filter (fun e => !same e x)
def low (p : α → Bool) (l : List α) : Nat := (l.takeWhile p).length
def ins (lt : α → α → Bool) (x : α) (o : List α) : List α := o.take (low (fun e => lt e x) o) ++ x :: o.drop (low (fun e => lt e x) o)
def lend (lt same : α → α → Bool) (x : α) (l : List α) : List α := ins lt x (free same x l)
def Mono (p : α → Bool) (l : List α) : Prop := ∀ (i j : Nat) a b, i ≤ j → l[i]? = some a → l[j]? = some b → p b = true → p a = true
theorem low_le (p : α → Bool) (l : List α) : low p l ≤ l.length := (List.takeWhile_prefix p).length_le
theorem low_lt {p : α → Bool} : ∀ {l : List α} {i : Nat} {a : α}, l[i]? = some a → i < low p l → p a = true
  | x :: t, i, a, h, hi => by
    unfold low at hi
    by_cases hx : p x = true
    · rw [List.takeWhile_cons_of_pos hx] at hi
      cases i with
      | zero => simp at h; rw [← h]; exact hx
      | succ i => exact low_lt (l := t) (by simpa using h) (by unfold low; simpa using hi)
    · rw [List.takeWhile_cons_of_neg hx] at hi; simp at hi
theorem low_at {p : α → Bool} : ∀ {l : List α} {a : α}, l[low p l]? = some a → p a = false
  | x :: t, a, h => by
    unfold low at h
    by_cases hx : p x = true
    · rw [List.takeWhile_cons_of_pos hx, List.length_cons, List.getElem?_cons_succ] at h
      exact low_at (l := t) h
    · rw [List.takeWhile_cons_of_neg hx] at h
      simp at h; rw [← h]; simpa using hx
theorem low_eq {p : α → Bool} {l : List α} {k : Nat} (hk : k ≤ l.length) (h1 : ∀ i a, i < k → l[i]? = some a → p a = true) (h2 : ∀ a, l[k]? = some a → p a = false) : low p l = k := by
  have hle := low_le p l
  by_cases hlt : low p l < k
  · have hx : l[low p l]? = some l[low p l] := List.getElem?_eq_getElem (by omega)
    have := h1 _ _ hlt hx
    rw [low_at hx] at this; cases this
  · by_cases hgt : k < low p l
    · have hx : l[k]? = some l[k] := List.getElem?_eq_getElem (by omega)
      have := low_lt hx hgt
      rw [h2 _ hx] at this; cases this
    · omega
theorem mono_low {p : α → Bool} {l : List α} (hm : Mono p l) {i : Nat} {a : α} (h : l[i]? = some a) : p a = decide (i < low p l) := by
  by_cases hi : i < low p l
  · rw [low_lt h hi]; simp [hi]
  · cases hp : p a with
    | false => simp [hi]
    | true =>
      have hil := (List.getElem?_eq_some_iff.1 h).1
      have hx : l[low p l]? = some l[low p l] := List.getElem?_eq_getElem (by omega)
      have := hm _ _ _ _ (by omega) hx h hp
      rw [low_at hx] at this; cases this
theorem pair_at {R : α → α → Prop} : ∀ {l : List α}, l.Pairwise R → ∀ {i j : Nat} {a b : α}, i < j → l[i]? = some a → l[j]? = some b → R a b
  | x :: t, h, i, j + 1, a, b, hij, ha, hb => by
    cases i with
    | zero =>
      simp at ha hb; subst ha
      exact (List.pairwise_cons.1 h).1 _ (List.mem_of_getElem? hb)
    | succ i => exact pair_at (List.pairwise_cons.1 h).2 (by omega : i < j) (by simpa using ha) (by simpa using hb)
theorem srt_mono {lt : α → α → Bool} (O : WO lt) {l : List α} (h : Srt lt l) (x : α) : Mono (fun e => lt e x) l := by
  intro i j a b hij ha hb hp
  by_cases he : i = j
  · subst he; rw [ha] at hb; cases hb; exact hp
  · exact O.nt (pair_at h (by omega : i < j) ha hb) hp
theorem free_sub (same : α → α → Bool) (x : α) (l : List α) : (free same x l).Sublist l := List.filter_sublist
theorem free_len (same : α → α → Bool) (x : α) (l : List α) : (free same x l).length ≤ l.length := (free_sub same x l).length_le
theorem free_srt {lt : α → α → Bool} (same : α → α → Bool) (x : α) {l : List α} (h : Srt lt l) : Srt lt (free same x l) := List.Pairwise.sublist (free_sub same x l) h
theorem free_uni (same : α → α → Bool) (x : α) {l : List α} (h : Uni same l) : Uni same (free same x l) := List.Pairwise.sublist (free_sub same x l) h
theorem free_none {same : α → α → Bool} {x : α} {l : List α} (h : ∀ e ∈ l, same e x = false) : free same x l = l := by
  unfold free
  rw [List.filter_eq_self]
  intro e he; rw [h e he]; rfl
/-- That two are the same is told by a key. -/
structure Key (same : α → α → Bool) : Prop where
  sym : ∀ {a b}, same a b = true → same b a = true
  tr : ∀ {a b c}, same a b = true → same b c = true → same a c = true
theorem free_at {same : α → α → Bool} (K : Key same) {x e : α} : ∀ {l : List α} {k : Nat}, Uni same l → l[k]? = some e → same e x = true → free same x l = l.take k ++ l.drop (k + 1)
  | y :: t, 0, h, he, hs => by
    simp at he; subst he
    have hn : ∀ z ∈ t, same z x = false := fun z hz => by
      cases hzx : same z x with
      | false => rfl
      | true =>
        have := (List.pairwise_cons.1 h).1 z hz
        rw [K.tr hs (K.sym hzx)] at this; cases this
    have : free same x (y :: t) = free same x t := by unfold free; rw [List.filter_cons, hs]; rfl
    rw [this, free_none hn]; rfl
  | y :: t, k + 1, h, he, hs => by
    have hy : same y x = false := by
      cases hyx : same y x with
      | false => rfl
      | true =>
        have := (List.pairwise_cons.1 h).1 e (List.mem_of_getElem? (by simpa using he))
        rw [K.tr hyx (K.sym hs)] at this; cases this
    have ih := free_at K (x := x) (l := t) (k := k) (List.pairwise_cons.1 h).2 (by simpa using he) hs
    have : free same x (y :: t) = y :: free same x t := by unfold free; rw [List.filter_cons, hy]; rfl
    rw [this, ih]; rfl
theorem ins_len {lt : α → α → Bool} {x : α} {o : List α} : (ins lt x o).length = o.length + 1 := by
  have := low_le (fun e => lt e x) o
  unfold ins; rw [List.length_append, List.length_cons, List.length_take, List.length_drop]; omega
theorem lend_len {lt same : α → α → Bool} {x : α} {l : List α} : (lend lt same x l).length ≤ l.length + 1 := by
  unfold lend; rw [ins_len]; have := free_len same x l; omega
theorem mem_take {l : List α} {k : Nat} {a : α} (h : a ∈ l.take k) : ∃ i, i < k ∧ l[i]? = some a := by
  obtain ⟨i, hi⟩ := List.mem_iff_getElem?.1 h
  have hlt := (List.getElem?_eq_some_iff.1 hi).1
  rw [List.length_take] at hlt
  exact ⟨i, by omega, by rw [List.getElem?_take_of_lt (by omega)] at hi; exact hi⟩
theorem mem_drop {l : List α} {k : Nat} {a : α} (h : a ∈ l.drop k) : ∃ i, k ≤ i ∧ l[i]? = some a := by
  obtain ⟨i, hi⟩ := List.mem_iff_getElem?.1 h
  rw [List.getElem?_drop] at hi
  exact ⟨k + i, by omega, hi⟩
theorem ins_srt {lt : α → α → Bool} (O : WO lt) {x : α} {o : List α} (h : Srt lt o) : Srt lt (ins lt x o) := by
  have hm := srt_mono O h x
  unfold ins
  refine List.pairwise_append.2 ⟨List.Pairwise.sublist (List.take_sublist _ _) h, List.pairwise_cons.2 ⟨?_, List.Pairwise.sublist (List.drop_sublist _ _) h⟩, ?_⟩
  · intro b hb
    obtain ⟨i, hi, he⟩ := mem_drop hb
    have h2 : lt b x = decide (i < low (fun e => lt e x) o) := mono_low hm he
    rw [h2]; simp; omega
  · intro a ha b hb
    obtain ⟨i, hi, he⟩ := mem_take ha
    rcases List.mem_cons.1 hb with rfl | hb
    · exact O.asy (low_lt (p := fun e => lt e b) he hi)
    · obtain ⟨j, hj, hf⟩ := mem_drop hb
      exact pair_at h (by omega : i < j) he hf
theorem mem_ins {lt : α → α → Bool} {x e : α} {o : List α} : e ∈ ins lt x o ↔ e = x ∨ e ∈ o := by
  unfold ins
  rw [List.mem_append, List.mem_cons]
  constructor
  · rintro (h | h | h)
    · exact .inr (List.mem_of_mem_take h)
    · exact .inl h
    · exact .inr (List.mem_of_mem_drop h)
  · rintro (h | h)
    · exact .inr (.inl h)
    · rw [← List.take_append_drop (low (fun e => lt e x) o) o, List.mem_append] at h
      rcases h with h | h
      · exact .inl h
      · exact .inr (.inr h)
theorem ins_uni {lt same : α → α → Bool} (K : Key same) {x : α} {o : List α} (h : Uni same o) (hx : ∀ e ∈ o, same e x = false) : Uni same (ins lt x o) := by
  have hx' : ∀ e ∈ o, same x e = false := fun e he => by
    cases hs : same x e with
    | false => rfl
    | true => rw [← hx e he, K.sym hs]
  unfold ins
  refine List.pairwise_append.2 ⟨List.Pairwise.sublist (List.take_sublist _ _) h, List.pairwise_cons.2 ⟨?_, List.Pairwise.sublist (List.drop_sublist _ _) h⟩, ?_⟩
  · exact fun b hb => hx' b (List.mem_of_mem_drop hb)
  · intro a ha b hb
    rcases List.mem_cons.1 hb with rfl | hb
    · exact hx a (List.mem_of_mem_take ha)
    · obtain ⟨i, hi, he⟩ := mem_take ha
      obtain ⟨j, hj, hf⟩ := mem_drop hb
      exact pair_at h (by omega : i < j) he hf
theorem free_not {same : α → α → Bool} {x e : α} {l : List α} (h : e ∈ free same x l) : same e x = false := by
  have := (List.mem_filter.1 h).2
  simpa using this
theorem lend_srt {lt same : α → α → Bool} (O : WO lt) {x : α} {l : List α} (h : Srt lt l) : Srt lt (lend lt same x l) := ins_srt O (free_srt same x h)
theorem lend_uni {lt same : α → α → Bool} (K : Key same) {x : α} {l : List α} (h : Uni same l) : Uni same (lend lt same x l) := ins_uni K (free_uni same x h) fun _ he => free_not he
/- The document's: put ahead of the first that it is ahead of. -/
theorem takeW_congr {p p' : α → Bool} : ∀ {l : List α}, (∀ e ∈ l, p e = p' e) → l.takeWhile p = l.takeWhile p'
  | [], _ => rfl
  | x :: t, h => by
    have hx := h x (by simp)
    rw [List.takeWhile_cons, List.takeWhile_cons, hx, takeW_congr fun e he => h e (by simp [he])]
theorem filter_low {p : α → Bool} : ∀ {l : List α}, Mono p l → l.filter p = l.take (low p l) ∧ l.filter (fun e => !p e) = l.drop (low p l)
  | [], _ => ⟨rfl, rfl⟩
  | x :: t, h => by
    have ht : Mono p t := fun i j a b hij ha hb hp => h (i + 1) (j + 1) a b (by omega) (by simpa using ha) (by simpa using hb) hp
    obtain ⟨h1, h2⟩ := filter_low ht
    by_cases hx : p x = true
    · have hl : low p (x :: t) = low p t + 1 := by unfold low; rw [List.takeWhile_cons_of_pos hx]; rfl
      rw [hl, List.filter_cons, List.filter_cons, hx]
      simp [h1, h2]
    · have hx' : p x = false := by simpa using hx
      have hl : low p (x :: t) = 0 := by unfold low; rw [List.takeWhile_cons_of_neg hx]; rfl
      have hn : ∀ e ∈ t, p e = false := fun e he => by
        cases hp : p e with
        | false => rfl
        | true =>
          obtain ⟨i, hi⟩ := List.mem_iff_getElem?.1 he
          have := h 0 (i + 1) x e (by omega) rfl (by simpa using hi) hp
          exact absurd this hx
      rw [hl, List.filter_cons, List.filter_cons, hx']
      refine ⟨?_, ?_⟩
      · simp only [Bool.false_eq_true, if_false, List.take_zero]
        rw [List.filter_eq_nil_iff]; intro e he; rw [hn e he]; simp
      · simp only [Bool.not_false, if_true, List.drop_zero]
        congr 1
        rw [List.filter_eq_self]; intro e he; rw [hn e he]; rfl
/-- By their texts, then. -/
def tl (a b : Txt) : Bool := Op.bytesLess a b
theorem tl_eq (a b : Txt) : tl a b = decide (a < b) := bytesLess_eq a b
theorem tl_irr (a : Txt) : tl a a = false := by rw [tl_eq, decide_eq_false (List.lt_irrefl a)]
theorem tl_tr {a b c : Txt} (h1 : tl a b = true) (h2 : tl b c = true) : tl a c = true := by
  rw [tl_eq] at *
  simp only [decide_eq_true_eq] at *
  exact List.lt_trans h1 h2
theorem tl_asy {a b : Txt} (h : tl a b = true) : tl b a = false := by
  cases h2 : tl b a with
  | false => rfl
  | true => have := tl_tr h h2; rw [tl_irr] at this; cases this
theorem tl_tri {a b : Txt} (h1 : tl a b = false) (h2 : tl b a = false) : a = b := by
  rw [tl_eq] at *
  simp only [decide_eq_false_iff_not] at *
  exact List.le_antisymm (List.not_lt.1 h2) (List.not_lt.1 h1)
theorem tl_nt {a b x : Txt} (h1 : tl b a = false) (h2 : tl b x = true) : tl a x = true := by
  cases h3 : tl a b with
  | true => exact tl_tr h3 h2
  | false => rw [tl_tri h3 h1]; exact h2
def kl (a b : Ln) : Bool := tl a.q b.q || (decide (a.q = b.q) && decide (a.id < b.id))
def sameL (a b : Ln) : Bool := decide (a.q = b.q ∧ a.id = b.id)
def ltL (a b : Ln) : Bool := decide (a.t < b.t) || (decide (a.t = b.t) && kl a b)
theorem kl_irr (a : Ln) : kl a a = false := by simp [kl, tl_irr]
theorem kl_tr {a b c : Ln} (h1 : kl a b = true) (h2 : kl b c = true) : kl a c = true := by
  simp only [kl, Bool.or_eq_true, Bool.and_eq_true, decide_eq_true_eq] at *
  rcases h1 with h1 | ⟨e1, h1⟩ <;> rcases h2 with h2 | ⟨e2, h2⟩
  · exact .inl (tl_tr h1 h2)
  · exact .inl (by rw [← e2]; exact h1)
  · exact .inl (by rw [e1]; exact h2)
  · exact .inr ⟨e1.trans e2, by omega⟩
theorem kl_asy {a b : Ln} (h : kl a b = true) : kl b a = false := by
  cases h2 : kl b a with
  | false => rfl
  | true => have := kl_tr h h2; rw [kl_irr] at this; cases this
theorem kl_tri {a b : Ln} (h1 : kl a b = false) (h2 : kl b a = false) : a.q = b.q ∧ a.id = b.id := by
  simp only [kl, Bool.or_eq_false_iff, Bool.and_eq_false_iff, decide_eq_false_iff_not] at *
  have hq : a.q = b.q := tl_tri h1.1 h2.1
  refine ⟨hq, ?_⟩
  rcases h1.2 with h | h
  · exact absurd hq h
  · rcases h2.2 with h' | h'
    · exact absurd hq.symm h'
    · omega
theorem kl_nt {a b x : Ln} (h1 : kl b a = false) (h2 : kl b x = true) : kl a x = true := by
  cases h3 : kl a b with
  | true => exact kl_tr h3 h2
  | false =>
    obtain ⟨e1, e2⟩ := kl_tri h3 h1
    unfold kl at *; rw [e1, e2]; exact h2
theorem woL : WO ltL := by
  constructor
  · intro a b h
    simp only [ltL, Bool.or_eq_true, Bool.and_eq_true, decide_eq_true_eq] at h
    simp only [ltL, Bool.or_eq_false_iff, Bool.and_eq_false_iff, decide_eq_false_iff_not]
    rcases h with h | ⟨e, h⟩
    · exact ⟨by omega, .inl (by omega)⟩
    · exact ⟨by omega, .inr (kl_asy h)⟩
  · intro a b x h1 h2
    simp only [ltL, Bool.or_eq_true, Bool.and_eq_true, decide_eq_true_eq] at *
    simp only [Bool.or_eq_false_iff, Bool.and_eq_false_iff, decide_eq_false_iff_not] at h1
    rcases h2 with h2 | ⟨e, h2⟩
    · exact .inl (by omega)
    · by_cases ht : a.t = b.t
      · refine .inr ⟨by omega, ?_⟩
        rcases h1.2 with h | h
        · omega
        · exact kl_nt h h2
      · exact .inl (by omega)
theorem keyL : Key sameL := ⟨fun h => by simp [sameL] at *; exact ⟨h.1.symm, h.2.symm⟩, fun h k => by simp [sameL] at *; exact ⟨h.1.trans k.1, h.2.trans k.2⟩⟩
theorem ltL_tri {a b : Ln} (h : sameL a b = false) : ltL a b = !ltL b a := by
  cases h1 : ltL b a with
  | true => exact woL.asy h1
  | false =>
    cases h2 : ltL a b with
    | true => rfl
    | false =>
      simp only [ltL, Bool.or_eq_false_iff, Bool.and_eq_false_iff, decide_eq_false_iff_not] at h1 h2
      have ht : a.t = b.t := by omega
      have k1 : kl a b = false := by rcases h2.2 with h | h; exact absurd ht h; exact h
      have k2 : kl b a = false := by rcases h1.2 with h | h; exact absurd ht.symm h; exact h
      have := kl_tri k1 k2
      simp [sameL, this] at h
def sameM (a b : Ms) : Bool := decide (a.s = b.s)
theorem keyM : Key sameM := ⟨fun h => by simp [sameM] at *; exact h.symm, fun h k => by simp [sameM] at *; exact h.trans k⟩
/-- Where a thing stands, if it does. -/
inductive Plc (same : α → α → Bool) (x : α) (l : List α) : Nat → Bool → Prop
  | there (k : Nat) (e : α) (he : l[k]? = some e) (hs : same e x = true) : Plc same x l k true
  | none (h : ∀ e ∈ l, same e x = false) : Plc same x l 0 false
theorem none_of {same : α → α → Bool} {x : α} {l : List α} (h : ∀ j e, j < l.length → l[j]? = some e → same e x = false) : ∀ e ∈ l, same e x = false := by
  intro e he
  obtain ⟨i, hi⟩ := List.mem_iff_getElem?.1 he
  exact h i e (List.getElem?_eq_some_iff.1 hi).1 hi
/-- What the document puts ahead of the first that x is ahead of. -/
def rins (x : Ln) (o : List Ln) : List Ln := o.takeWhile (fun e => !ltL x e) ++ x :: o.dropWhile (fun e => !ltL x e)
theorem take_low (p : α → Bool) : ∀ l : List α, l.take (low p l) = l.takeWhile p ∧ l.drop (low p l) = l.dropWhile p
  | [] => ⟨rfl, rfl⟩
  | x :: t => by
    obtain ⟨h1, h2⟩ := take_low p t
    unfold low at *
    by_cases hx : p x = true
    · rw [List.takeWhile_cons_of_pos hx, List.dropWhile_cons_of_pos hx]; simp [h1, h2]
    · rw [List.takeWhile_cons_of_neg hx, List.dropWhile_cons_of_neg hx]; simp
theorem low_congr {p p' : α → Bool} {l : List α} (h : ∀ e ∈ l, p e = p' e) : low p l = low p' l := by unfold low; rw [takeW_congr h]
theorem lend_rins (x : Ln) (l : List Ln) : lend ltL sameL x l = rins x (free sameL x l) := by
  unfold lend ins rins
  have hc : ∀ e ∈ free sameL x l, (fun e => ltL e x) e = (fun e => !ltL x e) e := fun e he => ltL_tri (free_not he)
  rw [low_congr hc]
  obtain ⟨h1, h2⟩ := take_low (fun e => !ltL x e) (free sameL x l)
  rw [h1, h2]
theorem srtT {l : List Ln} (h : Srt ltL l) (now : Nat) : Mono (fun e => decide (e.t ≤ now)) l := by
  intro i j a b hij ha hb hp
  by_cases he : i = j
  · subst he; rw [ha] at hb; cases hb; exact hp
  · have := pair_at h (by omega : i < j) ha hb
    simp only [ltL, Bool.or_eq_false_iff, decide_eq_false_iff_not] at this
    simp at hp ⊢; omega
def ltM (b : Bool) (e x : Ms) : Bool := decide (e.t < x.t) || (b && (decide (e.t = x.t) && tl x.s e.s))
theorem woM (b : Bool) : WO (ltM b) := by
  constructor
  · intro x y h
    simp only [ltM, Bool.or_eq_true, Bool.and_eq_true, decide_eq_true_eq] at h
    simp only [ltM, Bool.or_eq_false_iff, Bool.and_eq_false_iff, decide_eq_false_iff_not]
    rcases h with h | ⟨hb, e, h⟩
    · exact ⟨by omega, .inr (.inl (by omega))⟩
    · exact ⟨by omega, .inr (.inr (tl_asy h))⟩
  · intro x y z h1 h2
    simp only [ltM, Bool.or_eq_true, Bool.and_eq_true, decide_eq_true_eq] at *
    simp only [Bool.or_eq_false_iff, Bool.and_eq_false_iff, decide_eq_false_iff_not] at h1
    rcases h2 with h2 | ⟨hb, e, h2⟩
    · exact .inl (by omega)
    · by_cases ht : x.t = y.t
      · refine .inr ⟨hb, by omega, ?_⟩
        rcases h1.2 with h | h | h
        · rw [hb] at h; cases h
        · omega
        · cases h3 : tl z.s x.s with
          | true => rfl
          | false =>
            cases h4 : tl x.s y.s with
            | true => rw [h4] at h; cases h
            | false =>
              cases h5 : tl y.s x.s with
              | false => rw [tl_tri h4 h5, h2] at h3; cases h3
              | true => rw [tl_tr h2 h5] at h3; cases h3
      · exact .inl (by omega)
/-- One behind another: by their times; of one time, by the order, its text is below. -/
theorem next_ok {b : Bool} {l pre : List Ms} {p x : Ms} (hs : Srt (ltM b) l) (hu : Uni sameM l) (h : pre ++ [p] ++ [x] <+: l) : p.t ≤ x.t ∧ (b = true → p.t = x.t → tl x.s p.s = true) := by
  obtain ⟨r, rfl⟩ := h
  have h1 : ltM b x p = false := by
    have := List.pairwise_append.1 (List.pairwise_append.1 hs).1
    exact this.2.2 p (by simp) x (by simp)
  have h2 : sameM p x = false := by
    have := List.pairwise_append.1 (List.pairwise_append.1 hu).1
    exact this.2.2 p (by simp) x (by simp)
  simp only [ltM, Bool.or_eq_false_iff, Bool.and_eq_false_iff, decide_eq_false_iff_not] at h1
  refine ⟨by omega, fun hb ht => ?_⟩
  rcases h1.2 with h | h | h
  · rw [hb] at h; cases h
  · omega
  · cases h3 : tl x.s p.s with
    | true => rfl
    | false =>
      have := tl_tri h3 h
      simp [sameM, this] at h2
theorem srtTM {b : Bool} {l : List Ms} (h : Srt (ltM b) l) (now : Nat) : Mono (fun e => decide (e.t ≤ now)) l := by
  intro i j x y hij ha hb hp
  by_cases he : i = j
  · subst he; rw [ha] at hb; cases hb; exact hp
  · have := pair_at h (by omega : i < j) ha hb
    simp only [ltM, Bool.or_eq_false_iff, decide_eq_false_iff_not] at this
    simp at hp ⊢; omega
theorem free_count {l : List Ms} {x : Ms} (hu : Uni sameM l) : (free sameM x l).length + (if ∃ e ∈ l, e.s = x.s then 1 else 0) = l.length := by
  by_cases h : ∃ e ∈ l, e.s = x.s
  · rw [if_pos h]
    obtain ⟨e, he, hs⟩ := h
    obtain ⟨k, hk⟩ := List.mem_iff_getElem?.1 he
    have hlt := (List.getElem?_eq_some_iff.1 hk).1
    rw [free_at keyM hu hk (by simp [sameM, hs]), List.length_append, List.length_take, List.length_drop]; omega
  · rw [if_neg h, free_none (fun e he => by simp only [sameM]; exact decide_eq_false (fun hs => h ⟨e, he, hs⟩))]; omega
/-- What a map has is what a table has. -/
structure Rel (l : List Ms) (f : Txt → Option Nat) (c : Nat) : Prop where
  card : c = l.length
  of : ∀ e ∈ l, f e.s = some e.t
  has : ∀ s n, f s = some n → ∃ e ∈ l, e.s = s
theorem Rel.lend {lt : Ms → Ms → Bool} {l : List Ms} {f : Txt → Option Nat} {c : Nat} (h : Rel l f c) (hu : Uni sameM l) (x : Ms) : Rel (lend lt sameM x l) (fun j => if j = x.s then some x.t else f j) (if (f x.s).isSome then c else c + 1) := by
  refine ⟨?_, ?_, ?_⟩
  · have hc := free_count (x := x) hu
    unfold Ls.lend
    rw [ins_len]
    by_cases hx : ∃ e ∈ l, e.s = x.s
    · rw [if_pos hx] at hc
      obtain ⟨e, he, hs⟩ := hx
      have := h.of e he
      rw [hs] at this
      rw [this]; simp [h.card]; omega
    · rw [if_neg hx] at hc
      cases hf : f x.s with
      | some n => exact absurd (h.has _ _ hf) hx
      | none => simp [h.card]; omega
  · intro e he
    rcases mem_ins.1 he with rfl | he
    · simp
    · have hn := free_not he
      have hm := (List.mem_filter.1 he).1
      simp only [sameM, decide_eq_false_iff_not] at hn
      rw [if_neg hn]; exact h.of e hm
  · intro s n hs
    by_cases hx : s = x.s
    · exact ⟨x, mem_ins.2 (.inl rfl), hx.symm⟩
    · rw [if_neg hx] at hs
      obtain ⟨e, he, hes⟩ := h.has s n hs
      refine ⟨e, mem_ins.2 (.inr (List.mem_filter.2 ⟨he, ?_⟩)), hes⟩
      simp only [sameM]; simp [hes, hx]
/-- What is told of two texts. -/
theorem compare_tl : ∀ a b : Txt, Lib.compareBytes a b = if tl a b then -1 else if tl b a then 1 else 0
  | [], [] => rfl
  | [], b :: bv => rfl
  | a :: av, [] => rfl
  | a :: av, b :: bv => by
    rw [Lib.compareBytes, compare_tl av bv]
    unfold tl
    rw [Op.bytesLess, Op.bytesLess]
    by_cases h1 : a < b
    · simp [h1]
    · by_cases h2 : b < a
      · have h3 : ¬ a = b := fun e => by subst e; exact h1 h2
        simp [h1, h2, h3]
      · have h3 : a = b := by
          rw [UInt8.lt_iff_toNat_lt] at h1 h2
          exact UInt8.toNat_inj.1 (by omega)
        subst h3
        simp [h1]
end Go.Proofs.Ytpgaepilnbjhbaa.Ls
