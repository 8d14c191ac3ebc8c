/- Words of a text, whether a pattern means a key, and that the way by the last # alone tells just that. -/
import Derived.Test.YtkidilojgjligaaRows
set_option maxRecDepth 100000
set_option maxHeartbeats 4000000
set_option linter.unusedVariables false
namespace Go.Proofs.Ytkidilojgjligaa.Tp
abbrev Txt := List UInt8
/-- The parts of a text between its points. -/
def parts : Txt → List Txt
  | [] => [[]]
  | c :: t => if c = 46 then [] :: parts t else match parts t with
    | [] => [[c]]
    | h :: r => (c :: h) :: r
def words (s : Txt) : List Txt := if s = [] then [] else parts s
theorem parts_ne : ∀ s, parts s ≠ []
  | [] => by simp [parts]
  | c :: t => by
    unfold parts
    split
    · simp
    · split <;> simp
/-- What stands ahead of a point, behind it, and is there one? -/
def hd (s : Txt) : Txt := s.takeWhile (fun c => c != 46)
def tl (s : Txt) : Txt := (s.dropWhile (fun c => c != 46)).drop 1
def pt (s : Txt) : Bool := s.contains 46
theorem parts_step : ∀ s, parts s = hd s :: (if pt s then parts (tl s) else [])
  | [] => by simp [parts, hd, pt]
  | c :: t => by
    have ih := parts_step t
    by_cases hc : c = 46
    · subst hc
      simp [parts, hd, pt, tl]
    · have h1 : (c != 46) = true := by simpa using hc
      have e1 : hd (c :: t) = c :: hd t := by simp [hd, h1]
      have e2 : tl (c :: t) = tl t := by simp [tl, h1]
      have e3 : pt (c :: t) = pt t := by
        unfold pt; simp [Ne.symm hc]
      rw [parts, if_neg hc, ih, e1, e2, e3]
theorem parts_len : ∀ s, (parts s).length ≤ s.length + 1
  | [] => by simp [parts]
  | c :: t => by
    have ih := parts_len t
    unfold parts
    split
    · simp; omega
    · split
      · simp
      · rename_i h r e; rw [e] at ih; simp at ih ⊢; omega
theorem words_len (s : Txt) : (words s).length ≤ s.length + 1 := by
  unfold words
  split
  · simp
  · exact parts_len s
theorem parts_sum : ∀ s, ∀ x ∈ parts s, x.length ≤ s.length
  | [], x, h => by simp [parts] at h; simp [h]
  | c :: t, x, h => by
    have ih := parts_sum t
    unfold parts at h
    split at h
    · rcases List.mem_cons.1 h with rfl | h
      · simp
      · have := ih x h; simp; omega
    · split at h
      · simp at h; subst h; simp
      · rename_i e
        rcases List.mem_cons.1 h with rfl | h
        · have := ih _ (by rw [e]; exact List.mem_cons_self ..); simp; omega
        · have := ih x (by rw [e]; exact List.mem_cons_of_mem _ h); simp; omega
theorem words_sum (s : Txt) : ∀ x ∈ words s, x.length ≤ s.length := fun x h => by
  unfold words at h; split at h
  · simp at h
  · exact parts_sum s x h
/-- Parts of a row that goes on behind a beginning of its first. -/
def onto (w : Txt) (l : List Txt) : List Txt := match l with
  | [] => [w]
  | h :: r => (w ++ h) :: r
theorem onto_point (w : Txt) (t : Txt) : onto w (parts (46 :: t)) = w :: onto [] (parts t) := by
  have := parts_ne t
  rw [parts, if_pos rfl]
  simp only [onto, List.append_nil]
  cases h : parts t with
  | nil => exact absurd h this
  | cons a r => rfl
theorem onto_other (w : Txt) (c : UInt8) (t : Txt) (h : c ≠ 46) : onto w (parts (c :: t)) = onto (w ++ [c]) (parts t) := by
  have := parts_ne t
  rw [parts, if_neg h]
  cases h : parts t with
  | nil => exact absurd h this
  | cons a r => simp [onto]
theorem onto_nil (w : Txt) : onto w (parts []) = [w] := by simp [parts, onto]
theorem onto_none (s : Txt) : onto [] (parts s) = parts s := by
  have := parts_ne s
  cases h : parts s with
  | nil => exact absurd h this
  | cons a r => rfl
/-- Parts of two texts with a point between. -/
theorem parts_join : ∀ (a b : Txt), parts (a ++ 46 :: b) = parts a ++ parts b
  | [], b => by simp [parts]
  | c :: t, b => by
    have ih := parts_join t b
    by_cases hc : c = 46
    · simp [parts, hc, ih]
    · rw [List.cons_append, parts, if_neg hc, ih, parts, if_neg hc]
      have := parts_ne t
      cases h : parts t with
      | nil => exact absurd h this
      | cons x r => rfl
theorem words_of_ne {s : Txt} (h : s ≠ []) : words s = parts s := by unfold words; rw [if_neg h]
theorem words_nil : words [] = [] := by simp [words]
abbrev STAR : Txt := [42]
abbrev HASH : Txt := [35]
/-- Whether a pattern's words mean a key's. -/
def mt : List Txt → List Txt → Bool
  | [], k => k.isEmpty
  | p :: ps, k => if p = HASH then (List.range (k.length + 1)).any (fun i => mt ps (k.drop i)) else match k with
    | [] => false
    | x :: xs => (p == STAR || p == x) && mt ps xs
theorem mt_hash1 (ps k : List Txt) : mt (HASH :: ps) k = (List.range (k.length + 1)).any (fun i => mt ps (k.drop i)) := by
  cases k <;> rfl
theorem mt_hash (ps k : List Txt) : mt (HASH :: ps) k = true ↔ ∃ i, i ≤ k.length ∧ mt ps (k.drop i) = true := by
  rw [mt_hash1, List.any_eq_true]
  constructor
  · rintro ⟨i, hi, h⟩; exact ⟨i, by have := List.mem_range.1 hi; omega, h⟩
  · rintro ⟨i, hi, h⟩; exact ⟨i, List.mem_range.2 (by omega), h⟩
theorem mt_one {p x : Txt} {ps xs : List Txt} (hp : p ≠ HASH) : mt (p :: ps) (x :: xs) = ((p == STAR || p == x) && mt ps xs) := by
  rw [mt, if_neg hp]
theorem mt_none {p : Txt} {ps : List Txt} (hp : p ≠ HASH) : mt (p :: ps) [] = false := by
  rw [mt, if_neg hp]
theorem mt_nil (k : List Txt) : mt [] k = k.isEmpty := rfl
/-- A row without # takes as many words as it has. -/
theorem mt_run : ∀ (a b k : List Txt), (∀ x ∈ a, x ≠ HASH) → mt (a ++ b) k = true → a.length ≤ k.length ∧ mt b (k.drop a.length) = true
  | [], b, k, _, h => ⟨Nat.zero_le _, by simpa using h⟩
  | p :: a, b, k, hn, h => by
    have hp := hn p (List.mem_cons_self ..)
    cases k with
    | nil => rw [List.cons_append, mt_none hp] at h; cases h
    | cons x xs =>
      rw [List.cons_append, mt_one hp, Bool.and_eq_true] at h
      have := mt_run a b xs (fun y hy => hn y (List.mem_cons_of_mem _ hy)) h.2
      exact ⟨by simp; omega, by simpa using this.2⟩
/-- What the way holds: the pattern from 'at' on against the key from i on, or, of the last #, one word more at least. -/
structure Way (p k : List Txt) (at' i last taken : Nat) : Prop where
  hat : at' ≤ p.length
  hi : i ≤ k.length
  ht : taken ≤ i
  low : last ≤ at'
  none : last = 0 → (mt p k = mt (p.drop at') (k.drop i))
  hash : last ≠ 0 → p[last - 1]? = some HASH ∧ i - taken = at' - last ∧ (∀ j x, last ≤ j → j < at' → p[j]? = some x → x ≠ HASH) ∧ (mt p k = true ↔ mt (p.drop at') (k.drop i) = true ∨ ∃ j, taken < j ∧ j ≤ k.length ∧ mt (p.drop last) (k.drop j) = true)
theorem Way.start (p k : List Txt) : Way p k 0 0 0 0 :=
  ⟨Nat.zero_le _, Nat.zero_le _, Nat.le_refl _, Nat.le_refl _, fun _ => by simp, fun h => absurd rfl h⟩
theorem drop_at {l : List Txt} {i : Nat} {x : Txt} (h : l[i]? = some x) : l.drop i = x :: l.drop (i + 1) := by
  have hl := (List.getElem?_eq_some_iff.1 h).1
  rw [List.drop_eq_getElem_cons hl, (List.getElem?_eq_some_iff.1 h).2]
/-- The words from 'last' to 'at' go on with those from 'at' on. -/
theorem drop_mid {l : List Txt} {a b : Nat} (h : a ≤ b) : l.drop a = (l.drop a).take (b - a) ++ l.drop b := by
  have e : l.drop b = (l.drop a).drop (b - a) := by rw [List.drop_drop]; congr 1; omega
  rw [e, List.take_append_drop]
theorem Way.mid {p k : List Txt} {at' i last taken : Nat} (h : Way p k at' i last taken) (h0 : last ≠ 0) {j : Nat} (hm : mt (p.drop last) (k.drop j) = true) :
    j + (at' - last) ≤ k.length ∨ k.length < j ∧ at' = last := by
  have hh := h.hash h0
  rw [drop_mid h.low] at hm
  have := mt_run _ _ _ (fun x hx => by
    obtain ⟨m, hm⟩ := List.mem_iff_getElem?.1 hx
    have hl := (List.getElem?_eq_some_iff.1 hm).1
    rw [List.length_take] at hl
    rw [List.getElem?_take_of_lt (by omega), List.getElem?_drop] at hm
    exact hh.2.2.1 (last + m) x (by omega) (by omega) hm) hm
  have hl := this.1
  rw [List.length_take, List.length_drop, List.length_drop] at hl
  have := h.hat
  by_cases hj : k.length < j
  · exact .inr ⟨hj, by have := h.low; omega⟩
  · left; omega
theorem Way.midm {p k : List Txt} {at' i last taken : Nat} (h : Way p k at' i last taken) (h0 : last ≠ 0) {j : Nat} (hm : mt (p.drop last) (k.drop j) = true) :
    mt (p.drop at') (k.drop (j + (at' - last))) = true := by
  have hh := h.hash h0
  rw [drop_mid h.low] at hm
  have := mt_run _ _ _ (fun x hx => by
    obtain ⟨m, hm⟩ := List.mem_iff_getElem?.1 hx
    have hl := (List.getElem?_eq_some_iff.1 hm).1
    rw [List.length_take] at hl
    rw [List.getElem?_take_of_lt (by omega), List.getElem?_drop] at hm
    exact hh.2.2.1 (last + m) x (by omega) (by omega) hm) hm
  have h2 := this.2
  have := h.hat
  rw [List.length_take, List.length_drop, show min (at' - last) (p.length - last) = at' - last by omega, List.drop_drop] at h2
  exact h2
/-- At a #. -/
theorem Way.atHash {p k : List Txt} {at' i last taken : Nat} (h : Way p k at' i last taken) (hp : p[at']? = some HASH) : Way p k (at' + 1) i (at' + 1) i := by
  have hl := (List.getElem?_eq_some_iff.1 hp).1
  refine ⟨by omega, h.hi, Nat.le_refl _, Nat.le_refl _, fun e => by omega, fun _ => ⟨hp, by omega, fun j x h1 h2 => by omega, ?_⟩⟩
  have key : mt (p.drop at') (k.drop i) = true ↔ (mt (p.drop (at' + 1)) (k.drop i) = true ∨ ∃ j, i < j ∧ j ≤ k.length ∧ mt (p.drop (at' + 1)) (k.drop j) = true) := by
    rw [drop_at hp, mt_hash]
    constructor
    · rintro ⟨m, hm, hx⟩
      rw [List.drop_drop] at hx
      rw [List.length_drop] at hm
      cases m with
      | zero => left; simpa using hx
      | succ m => exact .inr ⟨i + (m + 1), by omega, by have := h.hi; omega, hx⟩
    · rintro (hx | ⟨j, h1, h2, hx⟩)
      · exact ⟨0, Nat.zero_le _, by simpa using hx⟩
      · exact ⟨j - i, by rw [List.length_drop]; omega, by rw [List.drop_drop, show i + (j - i) = j by omega]; exact hx⟩
  by_cases h0 : last = 0
  · rw [h.none h0, key]
  · have hh := h.hash h0
    rw [hh.2.2.2, key]
    constructor
    · rintro (hx | ⟨j, h1, h2, hx⟩)
      · exact hx
      · have hr := h.midm h0 hx
        have hroom := h.mid h0 hx
        rw [drop_at hp, mt_hash] at hr
        obtain ⟨m, hm, hr⟩ := hr
        rw [List.drop_drop] at hr
        rw [List.length_drop] at hm
        have e := hh.2.1
        have := h.ht
        exact .inr ⟨j + (at' - last) + m, by omega, by omega, hr⟩
    · exact fun hx => .inl hx
theorem Way.one {p k : List Txt} {at' i last taken : Nat} (h : Way p k at' i last taken) {x y : Txt} (hp : p[at']? = some x) (hk : k[i]? = some y) (hn : x ≠ HASH) (hx : x = STAR ∨ x = y) : Way p k (at' + 1) (i + 1) last taken := by
  have hl := (List.getElem?_eq_some_iff.1 hp).1
  have hl2 := (List.getElem?_eq_some_iff.1 hk).1
  have e : mt (p.drop at') (k.drop i) = mt (p.drop (at' + 1)) (k.drop (i + 1)) := by
    rw [drop_at hp, drop_at hk, mt_one hn]
    have : (x == STAR || x == y) = true := by rcases hx with h | h <;> simp [h]
    rw [this, Bool.true_and]
  have := h.ht
  have := h.low
  refine ⟨by omega, by omega, by omega, by omega, fun h0 => by rw [h.none h0, e], fun h0 => ?_⟩
  have hh := h.hash h0
  refine ⟨hh.1, by omega, fun j z h1 h2 hz => ?_, by rw [hh.2.2.2, e]⟩
  by_cases hj : j < at'
  · exact hh.2.2.1 j z h1 hj hz
  · obtain rfl : j = at' := by omega
    rw [hp] at hz; cases hz; exact hn
/-- Where words don't fit. -/
theorem Way.stuck {p k : List Txt} {at' i last taken : Nat} (_h : Way p k at' i last taken) (hi : i < k.length) (hbad : at' = p.length ∨ ∃ x y, p[at']? = some x ∧ k[i]? = some y ∧ x ≠ HASH ∧ x ≠ STAR ∧ x ≠ y) : mt (p.drop at') (k.drop i) = false := by
  have hk : k[i]? = some k[i] := List.getElem?_eq_getElem hi
  rcases hbad with rfl | ⟨x, y, h1, h2, h3, h4, h5⟩
  · rw [List.drop_eq_nil_of_le (Nat.le_refl _), mt_nil, drop_at hk]; rfl
  · rw [drop_at h1, drop_at h2, mt_one h3]
    have : (x == STAR || x == y) = false := by simp [h4, h5]
    rw [this, Bool.false_and]
theorem Way.more {p k : List Txt} {at' i last taken : Nat} (h : Way p k at' i last taken) (h0 : last ≠ 0) (hi : i < k.length) (hbad : at' = p.length ∨ ∃ x y, p[at']? = some x ∧ k[i]? = some y ∧ x ≠ HASH ∧ x ≠ STAR ∧ x ≠ y) : Way p k last (taken + 1) last (taken + 1) := by
  have hb := h.stuck hi hbad
  have hh := h.hash h0
  have := h.ht
  have := h.low
  have := h.hat
  refine ⟨by omega, by omega, Nat.le_refl _, Nat.le_refl _, fun e => absurd e h0, fun _ => ⟨hh.1, by omega, fun j x h1 h2 => by omega, ?_⟩⟩
  rw [hh.2.2.2, hb]
  constructor
  · rintro (hx | ⟨j, h1, h2, hx⟩)
    · cases hx
    · by_cases e : j = taken + 1
      · subst e; exact .inl hx
      · exact .inr ⟨j, by omega, h2, hx⟩
  · rintro (hx | ⟨j, h1, h2, hx⟩)
    · exact .inr ⟨taken + 1, by omega, by omega, hx⟩
    · exact .inr ⟨j, by omega, h2, hx⟩
theorem Way.no {p k : List Txt} {at' i taken : Nat} (h : Way p k at' i 0 taken) (hi : i < k.length) (hbad : at' = p.length ∨ ∃ x y, p[at']? = some x ∧ k[i]? = some y ∧ x ≠ HASH ∧ x ≠ STAR ∧ x ≠ y) : mt p k = false := by
  rw [h.none rfl, h.stuck hi hbad]
/-- Of no word: just what is # all along. -/
theorem mt_empty : ∀ p : List Txt, mt p [] = p.all (fun x => decide (x = HASH))
  | [] => rfl
  | x :: t => by
    by_cases hx : x = HASH
    · subst hx
      rw [mt, if_pos rfl]
      simp [mt_empty t]
    · rw [mt_none hx]; simp [hx]
theorem Way.done {p k : List Txt} {at' last taken : Nat} (h : Way p k at' k.length last taken) : mt p k = (p.drop at').all (fun x => decide (x = HASH)) := by
  rw [← mt_empty]
  have e : k.drop k.length = [] := by simp
  by_cases h0 : last = 0
  · rw [h.none h0, e]
  · have hh := h.hash h0
    rw [e] at hh
    rw [Bool.eq_iff_iff, hh.2.2.2]
    constructor
    · rintro (hx | ⟨j, h1, h2, hx⟩)
      · exact hx
      · exfalso
        have := h.mid h0 hx
        have := h.ht
        have := hh.2.1
        omega
    · exact fun hx => .inl hx
/-- What is left of # alone, step by step. -/
theorem all_hash {p : List Txt} {j : Nat} (h : p[j]? = some HASH) : (p.drop j).all (fun x => decide (x = HASH)) = (p.drop (j + 1)).all (fun x => decide (x = HASH)) := by
  rw [drop_at h]; simp
theorem all_other {p : List Txt} {j : Nat} {x : Txt} (h : p[j]? = some x) (hx : x ≠ HASH) : (p.drop j).all (fun x => decide (x = HASH)) = false := by
  rw [drop_at h]; simp [hx]
theorem all_end (p : List Txt) : (p.drop p.length).all (fun x => decide (x = HASH)) = true := by simp
/-- Names. -/
def plainB (b : UInt8) : Bool := decide (97 ≤ b ∧ b ≤ 122) || decide (65 ≤ b ∧ b ≤ 90) || decide (48 ≤ b ∧ b ≤ 57) || decide (b = 45) || decide (b = 95)
def nameB (s : Txt) : Bool := decide (s ≠ []) && decide (s.length ≤ 32) && s.all plainB
def keyB (s : Txt) : Bool := decide ((words s).length ≤ 8) && (words s).all nameB
def wordB (w : Txt) : Bool := decide (w = STAR) || decide (w = HASH) || nameB w
def patB (s : Txt) : Bool := decide ((words s).length ≤ 8) && (words s).all wordB
theorem name_not {w : Txt} (h : nameB w = true) : w ≠ HASH ∧ w ≠ STAR := by
  constructor <;> (rintro rfl; revert h; decide)
/-- A key matches itself. -/
theorem mt_self : ∀ k : List Txt, (∀ x ∈ k, x ≠ HASH) → mt k k = true
  | [], _ => rfl
  | x :: t, h => by
    rw [mt_one (h x (List.mem_cons_self ..)), mt_self t (fun y hy => h y (List.mem_cons_of_mem _ hy))]
    simp
theorem mt_hashes (k : List Txt) : mt [HASH] k = true := (mt_hash [] k).2 ⟨k.length, Nat.le_refl _, by simp [mt_nil]⟩
theorem star_ne : STAR ≠ HASH := by decide
theorem mt_stars : ∀ (n : Nat) (k : List Txt), mt (List.replicate n STAR) k = decide (k.length = n)
  | 0, k => by cases k <;> rfl
  | n + 1, [] => by rw [List.replicate_succ, mt_none star_ne]; simp
  | n + 1, x :: t => by rw [List.replicate_succ, mt_one star_ne, mt_stars n t]; simp
theorem mt_ahead {p k : List Txt} (h : mt p k = true) : mt (HASH :: p) k = true := (mt_hash p k).2 ⟨0, Nat.zero_le _, by simpa using h⟩
theorem mt_behind : ∀ (p k : List Txt), mt p k = true → mt (p ++ [HASH]) k = true
  | [], k, h => by
    rw [mt_nil] at h
    have : k = [] := by simpa using h
    subst this
    exact mt_hashes []
  | x :: t, k, h => by
    by_cases hx : x = HASH
    · subst hx
      obtain ⟨i, hi, hm⟩ := (mt_hash _ _).1 h
      exact (mt_hash _ _).2 ⟨i, hi, mt_behind _ _ hm⟩
    · cases k with
      | nil => rw [mt_none hx] at h; cases h
      | cons y ys =>
        rw [mt_one hx, Bool.and_eq_true] at h
        rw [List.cons_append, mt_one hx, h.1, Bool.true_and]
        exact mt_behind _ _ h.2
theorem words_behind {s : Txt} (h : s ≠ []) : words (s ++ [46, 35]) = words s ++ [HASH] := by
  rw [words_of_ne h, words_of_ne (by simp), show s ++ [46, 35] = s ++ 46 :: [35] from rfl, parts_join]
  rfl
theorem words_ahead {s : Txt} (h : s ≠ []) : words (35 :: 46 :: s) = HASH :: words s := by
  rw [words_of_ne h, words_of_ne (by simp), show (35 : UInt8) :: 46 :: s = [35] ++ 46 :: s from rfl, parts_join]
  rfl
theorem words_hash : words [35] = [HASH] := by rfl
/-- The stars. -/
def stars : Nat → Txt
  | 0 => []
  | n + 1 => stars n ++ [46, 42]
theorem stars_len : ∀ n, (stars n).length = 2 * n
  | 0 => rfl
  | n + 1 => by simp [stars, stars_len n]; omega
theorem stars_cons : ∀ n, stars (n + 1) = 46 :: 42 :: stars n
  | 0 => rfl
  | n + 1 => by
    show stars (n + 1) ++ [46, 42] = 46 :: 42 :: (stars n ++ [46, 42])
    rw [stars_cons n]; rfl
theorem parts_stars : ∀ n, parts (42 :: stars n) = List.replicate (n + 1) STAR
  | 0 => rfl
  | n + 1 => by
    rw [stars_cons, show (42 : UInt8) :: 46 :: 42 :: stars n = [42] ++ 46 :: (42 :: stars n) from rfl, parts_join, parts_stars n]
    rfl
/-- Without their first point. -/
def strs (n : Nat) : Txt := (stars n).drop 1
theorem strs_succ (n : Nat) : strs (n + 1) = 42 :: stars n := by rw [strs, stars_cons]; rfl
theorem words_strs (n : Nat) : words (strs n) = List.replicate n STAR := by
  cases n with
  | zero => rfl
  | succ n => rw [strs_succ, words_of_ne (by simp), parts_stars]
theorem words_strs_more (n : Nat) (h : n ≠ 0) : words (strs n ++ [46, 42]) = List.replicate (n + 1) STAR := by
  cases n with
  | zero => exact absurd rfl h
  | succ n =>
    rw [strs_succ, List.cons_append, show stars n ++ [46, 42] = stars (n + 1) from rfl, words_of_ne (by simp), parts_stars]
theorem words_zero {s : Txt} (h : (words s).length = 0) : s = [] := by
  unfold words at h
  split at h
  · assumption
  · have := parts_ne s
    exact absurd (List.length_eq_zero_iff.1 h) this
end Go.Proofs.Ytkidilojgjligaa.Tp
