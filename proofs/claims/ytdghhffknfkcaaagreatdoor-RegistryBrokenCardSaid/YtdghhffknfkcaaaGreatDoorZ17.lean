/- Texts of one seat, merged. -/
import Derived.Test.YtdghhffknfkcaaaGreatDoorRows
import Derived.Test.YtdghhffknfkcaaaGreatDoorZ16
import Derived.WalkKit
import Derived.WalkLawsBesides
import Derived.Below
import Derived.Lib.Hide
import Derived.Lib.Strings
import Derived.Laws.IdiomStrings
import Derived.RegionTactic
import Derived.Deep.RegionWith
import Derived.Deep.LoopGhost
import Derived.Deep.QuietTactic
import Derived.Sort.EncStr
import Derived.OwnWalk
import Derived.Maps.AppendAt
import Derived.Deep.DeepCutAuto
import Derived.BigQuiet
import Derived.Deep.CutRange
set_option maxRecDepth 100000
set_option maxHeartbeats 4000000
set_option linter.unusedVariables false
/- Words of a text, whether a pattern means a key, and that the way by the last # alone tells just that. -/
namespace Go.Proofs.YtdghhffknfkcaaaGreatDoor.Tp
abbrev Txt := List UInt8
/-- The parts of a text between its points. -/
def parts : Txt → List Txt
  | [] => [[]]
  | c :: t => if c = 46 then [] :: parts t else match parts t with
    | [] => [[c]]
    | h :: r => (c :: h) :: r
def words (s : Txt) : List Txt := if s = [] then [] else parts s
theorem parts_ne : ∀ s, parts s ≠ []
  | [] => by simp [parts]
  | c :: t => by
    unfold parts
    split
    · simp
    · split <;> simp
/-- What stands ahead of a point, behind it, and is there one? -/
def hd (s : Txt) : Txt := s.takeWhile (fun c => c != 46)
def tl (s : Txt) : Txt := (s.dropWhile (fun c => c != 46)).drop 1
def pt (s : Txt) : Bool := s.contains 46
theorem parts_step : ∀ s, parts s = hd s :: (if pt s then parts (tl s) else [])
  | [] => by simp [parts, hd, pt]
  | c :: t => by
    have ih := parts_step t
    by_cases hc : c = 46
    · subst hc
      simp [parts, hd, pt, tl]
    · have h1 : (c != 46) = true := by simpa using hc
      have e1 : hd (c :: t) = c :: hd t := by simp [hd, h1]
      have e2 : tl (c :: t) = tl t := by simp [tl, h1]
      have e3 : pt (c :: t) = pt t := by
        unfold pt; simp [Ne.symm hc]
      rw [parts, if_neg hc, ih, e1, e2, e3]
theorem parts_len : ∀ s, (parts s).length ≤ s.length + 1
  | [] => by simp [parts]
  | c :: t => by
    have ih := parts_len t
    unfold parts
    split
    · simp; omega
    · split
      · simp
      · rename_i h r e; rw [e] at ih; simp at ih ⊢; omega
theorem words_len (s : Txt) : (words s).length ≤ s.length + 1 := by
  unfold words
  split
  · simp
  · exact parts_len s
theorem parts_sum : ∀ s, ∀ x ∈ parts s, x.length ≤ s.length
  | [], x, h => by simp [parts] at h; simp [h]
  | c :: t, x, h => by
    have ih := parts_sum t
    unfold parts at h
    split at h
    · rcases List.mem_cons.1 h with rfl | h
      · simp
      · have := ih x h; simp; omega
    · split at h
      · simp at h; subst h; simp
      · rename_i e
        rcases List.mem_cons.1 h with rfl | h
        · have := ih _ (by rw [e]; exact List.mem_cons_self ..); simp; omega
        · have := ih x (by rw [e]; exact List.mem_cons_of_mem _ h); simp; omega
theorem words_sum (s : Txt) : ∀ x ∈ words s, x.length ≤ s.length := fun x h => by
  unfold words at h; split at h
  · simp at h
  · exact parts_sum s x h
/-- Parts of a row that goes on behind a beginning of its first. -/
def onto (w : Txt) (l : List Txt) : List Txt := match l with
  | [] => [w]
  | h :: r => (w ++ h) :: r
theorem onto_point (w : Txt) (t : Txt) : onto w (parts (46 :: t)) = w :: onto [] (parts t) := by
  have := parts_ne t
  rw [parts, if_pos rfl]
  simp only [onto, List.append_nil]
  cases h : parts t with
  | nil => exact absurd h this
  | cons a r => rfl
theorem onto_other (w : Txt) (c : UInt8) (t : Txt) (h : c ≠ 46) : onto w (parts (c :: t)) = onto (w ++ [c]) (parts t) := by
  have := parts_ne t
  rw [parts, if_neg h]
  cases h : parts t with
  | nil => exact absurd h this
  | cons a r => simp [onto]
theorem onto_nil (w : Txt) : onto w (parts []) = [w] := by simp [parts, onto]
theorem onto_none (s : Txt) : onto [] (parts s) = parts s := by
  have := parts_ne s
  cases h : parts s with
  | nil => exact absurd h this
  | cons a r => rfl
/-- Parts of two texts with a point between. -/
theorem parts_join : ∀ (a b : Txt), parts (a ++ 46 :: b) = parts a ++ parts b
  | [], b => by simp [parts]
  | c :: t, b => by
    have ih := parts_join t b
    by_cases hc : c = 46
    · simp [parts, hc, ih]
    · rw [List.cons_append, parts, if_neg hc, ih, parts, if_neg hc]
      have := parts_ne t
      cases h : parts t with
      | nil => exact absurd h this
      | cons x r => rfl
theorem words_of_ne {s : Txt} (h : s ≠ []) : words s = parts s := by unfold words; rw [if_neg h]
theorem words_nil : words [] = [] := by simp [words]
abbrev STAR : Txt := [42]
abbrev HASH : Txt := [35]
/-- Whether a pattern's words mean a key's. -/
def mt : List Txt → List Txt → Bool
  | [], k => k.isEmpty
  | p :: ps, k => if p = HASH then (List.range (k.length + 1)).any (fun i => mt ps (k.drop i)) else match k with
    | [] => false
    | x :: xs => (p == STAR || p == x) && mt ps xs
theorem mt_hash1 (ps k : List Txt) : mt (HASH :: ps) k = (List.range (k.length + 1)).any (fun i => mt ps (k.drop i)) := by
  cases k <;> rfl
theorem mt_hash (ps k : List Txt) : mt (HASH :: ps) k = true ↔ ∃ i, i ≤ k.length ∧ mt ps (k.drop i) = true := by
  rw [mt_hash1, List.any_eq_true]
  constructor
  · rintro ⟨i, hi, h⟩; exact ⟨i, by have := List.mem_range.1 hi; omega, h⟩
  · rintro ⟨i, hi, h⟩; exact ⟨i, List.mem_range.2 (by omega), h⟩
theorem mt_one {p x : Txt} {ps xs : List Txt} (hp : p ≠ HASH) : mt (p :: ps) (x :: xs) = ((p == STAR || p == x) && mt ps xs) := by
  rw [mt, if_neg hp]
theorem mt_none {p : Txt} {ps : List Txt} (hp : p ≠ HASH) : mt (p :: ps) [] = false := by
  rw [mt, if_neg hp]
theorem mt_nil (k : List Txt) : mt [] k = k.isEmpty := rfl
/-- A row without # takes as many words as it has. -/
theorem mt_run : ∀ (a b k : List Txt), (∀ x ∈ a, x ≠ HASH) → mt (a ++ b) k = true → a.length ≤ k.length ∧ mt b (k.drop a.length) = true
  | [], b, k, _, h => ⟨Nat.zero_le _, by simpa using h⟩
  | p :: a, b, k, hn, h => by
    have hp := hn p (List.mem_cons_self ..)
    cases k with
    | nil => rw [List.cons_append, mt_none hp] at h; cases h
    | cons x xs =>
      rw [List.cons_append, mt_one hp, Bool.and_eq_true] at h
      have := mt_run a b xs (fun y hy => hn y (List.mem_cons_of_mem _ hy)) h.2
      exact ⟨by simp; omega, by simpa using this.2⟩
/-- What the way holds: the pattern from 'at' on against the key from i on, or, of the last #, one word more at least. -/
structure Way (p k : List Txt) (at' i last taken : Nat) : Prop where
  hat : at' ≤ p.length
  hi : i ≤ k.length
  ht : taken ≤ i
  low : last ≤ at'
  none : last = 0 → (mt p k = mt (p.drop at') (k.drop i))
  hash : last ≠ 0 → p[last - 1]? = some HASH ∧ i - taken = at' - last ∧ (∀ j x, last ≤ j → j < at' → p[j]? = some x → x ≠ HASH) ∧ (mt p k = true ↔ mt (p.drop at') (k.drop i) = true ∨ ∃ j, taken < j ∧ j ≤ k.length ∧ mt (p.drop last) (k.drop j) = true)
theorem Way.start (p k : List Txt) : Way p k 0 0 0 0 :=
  ⟨Nat.zero_le _, Nat.zero_le _, Nat.le_refl _, Nat.le_refl _, fun _ => by simp, fun h => absurd rfl h⟩
theorem drop_at {l : List Txt} {i : Nat} {x : Txt} (h : l[i]? = some x) : l.drop i = x :: l.drop (i + 1) := by
  have hl := (List.getElem?_eq_some_iff.1 h).1
  rw [List.drop_eq_getElem_cons hl, (List.getElem?_eq_some_iff.1 h).2]
/-- The words from 'last' to 'at' go on with those from 'at' on. -/
theorem drop_mid {l : List Txt} {a b : Nat} (h : a ≤ b) : l.drop a = (l.drop a).take (b - a) ++ l.drop b := by
  have e : l.drop b = (l.drop a).drop (b - a) := by rw [List.drop_drop]; congr 1; omega
  rw [e, List.take_append_drop]
theorem Way.mid {p k : List Txt} {at' i last taken : Nat} (h : Way p k at' i last taken) (h0 : last ≠ 0) {j : Nat} (hm : mt (p.drop last) (k.drop j) = true) :
    j + (at' - last) ≤ k.length ∨ k.length < j ∧ at' = last := by
  have hh := h.hash h0
  rw [drop_mid h.low] at hm
  have := mt_run _ _ _ (fun x hx => by
    obtain ⟨m, hm⟩ := List.mem_iff_getElem?.1 hx
    have hl := (List.getElem?_eq_some_iff.1 hm).1
    rw [List.length_take] at hl
    rw [List.getElem?_take_of_lt (by omega), List.getElem?_drop] at hm
    exact hh.2.2.1 (last + m) x (by omega) (by omega) hm) hm
  have hl := this.1
  rw [List.length_take, List.length_drop, List.length_drop] at hl
  have := h.hat
  by_cases hj : k.length < j
  · exact .inr ⟨hj, by have := h.low; omega⟩
  · left; omega
theorem Way.midm {p k : List Txt} {at' i last taken : Nat} (h : Way p k at' i last taken) (h0 : last ≠ 0) {j : Nat} (hm : mt (p.drop last) (k.drop j) = true) :
    mt (p.drop at') (k.drop (j + (at' - last))) = true := by
  have hh := h.hash h0
  rw [drop_mid h.low] at hm
  have := mt_run _ _ _ (fun x hx => by
    obtain ⟨m, hm⟩ := List.mem_iff_getElem?.1 hx
    have hl := (List.getElem?_eq_some_iff.1 hm).1
    rw [List.length_take] at hl
    rw [List.getElem?_take_of_lt (by omega), List.getElem?_drop] at hm
    exact hh.2.2.1 (last + m) x (by omega) (by omega) hm) hm
  have h2 := this.2
  have := h.hat
  rw [List.length_take, List.length_drop, show min (at' - last) (p.length - last) = at' - last by omega, List.drop_drop] at h2
  exact h2
/-- At a #. -/
theorem Way.atHash {p k : List Txt} {at' i last taken : Nat} (h : Way p k at' i last taken) (hp : p[at']? = some HASH) : Way p k (at' + 1) i (at' + 1) i := by
  have hl := (List.getElem?_eq_some_iff.1 hp).1
  refine ⟨by omega, h.hi, Nat.le_refl _, Nat.le_refl _, fun e => by omega, fun _ => ⟨hp, by omega, fun j x h1 h2 => by omega, ?_⟩⟩
  have key : mt (p.drop at') (k.drop i) = true ↔ (mt (p.drop (at' + 1)) (k.drop i) = true ∨ ∃ j, i < j ∧ j ≤ k.length ∧ mt (p.drop (at' + 1)) (k.drop j) = true) := by
    rw [drop_at hp, mt_hash]
    constructor
    · rintro ⟨m, hm, hx⟩
      rw [List.drop_drop] at hx
      rw [List.length_drop] at hm
      cases m with
      | zero => left; simpa using hx
      | succ m => exact .inr ⟨i + (m + 1), by omega, by have := h.hi; omega, hx⟩
    · rintro (hx | ⟨j, h1, h2, hx⟩)
      · exact ⟨0, Nat.zero_le _, by simpa using hx⟩
      · exact ⟨j - i, by rw [List.length_drop]; omega, by rw [List.drop_drop, show i + (j - i) = j by omega]; exact hx⟩
  by_cases h0 : last = 0
  · rw [h.none h0, key]
  · have hh := h.hash h0
    rw [hh.2.2.2, key]
    constructor
    · rintro (hx | ⟨j, h1, h2, hx⟩)
      · exact hx
      · have hr := h.midm h0 hx
        have hroom := h.mid h0 hx
        rw [drop_at hp, mt_hash] at hr
        obtain ⟨m, hm, hr⟩ := hr
        rw [List.drop_drop] at hr
        rw [List.length_drop] at hm
        have e := hh.2.1
        have := h.ht
        exact .inr ⟨j + (at' - last) + m, by omega, by omega, hr⟩
    · exact fun hx => .inl hx
theorem Way.one {p k : List Txt} {at' i last taken : Nat} (h : Way p k at' i last taken) {x y : Txt} (hp : p[at']? = some x) (hk : k[i]? = some y) (hn : x ≠ HASH) (hx : x = STAR ∨ x = y) : Way p k (at' + 1) (i + 1) last taken := by
  have hl := (List.getElem?_eq_some_iff.1 hp).1
  have hl2 := (List.getElem?_eq_some_iff.1 hk).1
  have e : mt (p.drop at') (k.drop i) = mt (p.drop (at' + 1)) (k.drop (i + 1)) := by
    rw [drop_at hp, drop_at hk, mt_one hn]
    have : (x == STAR || x == y) = true := by rcases hx with h | h <;> simp [h]
    rw [this, Bool.true_and]
  have := h.ht
  have := h.low
  refine ⟨by omega, by omega, by omega, by omega, fun h0 => by rw [h.none h0, e], fun h0 => ?_⟩
  have hh := h.hash h0
  refine ⟨hh.1, by omega, fun j z h1 h2 hz => ?_, by rw [hh.2.2.2, e]⟩
  by_cases hj : j < at'
  · exact hh.2.2.1 j z h1 hj hz
  · obtain rfl : j = at' := by omega
    rw [hp] at hz; cases hz; exact hn
/-- Where words don't fit. -/
theorem Way.stuck {p k : List Txt} {at' i last taken : Nat} (_h : Way p k at' i last taken) (hi : i < k.length) (hbad : at' = p.length ∨ ∃ x y, p[at']? = some x ∧ k[i]? = some y ∧ x ≠ HASH ∧ x ≠ STAR ∧ x ≠ y) : mt (p.drop at') (k.drop i) = false := by
  have hk : k[i]? = some k[i] := List.getElem?_eq_getElem hi
  rcases hbad with rfl | ⟨x, y, h1, h2, h3, h4, h5⟩
  · rw [List.drop_eq_nil_of_le (Nat.le_refl _), mt_nil, drop_at hk]; rfl
  · rw [drop_at h1, drop_at h2, mt_one h3]
    have : (x == STAR || x == y) = false := by simp [h4, h5]
    rw [this, Bool.false_and]
theorem Way.more {p k : List Txt} {at' i last taken : Nat} (h : Way p k at' i last taken) (h0 : last ≠ 0) (hi : i < k.length) (hbad : at' = p.length ∨ ∃ x y, p[at']? = some x ∧ k[i]? = some y ∧ x ≠ HASH ∧ x ≠ STAR ∧ x ≠ y) : Way p k last (taken + 1) last (taken + 1) := by
  have hb := h.stuck hi hbad
  have hh := h.hash h0
  have := h.ht
  have := h.low
  have := h.hat
  refine ⟨by omega, by omega, Nat.le_refl _, Nat.le_refl _, fun e => absurd e h0, fun _ => ⟨hh.1, by omega, fun j x h1 h2 => by omega, ?_⟩⟩
  rw [hh.2.2.2, hb]
  constructor
  · rintro (hx | ⟨j, h1, h2, hx⟩)
    · cases hx
    · by_cases e : j = taken + 1
      · subst e; exact .inl hx
      · exact .inr ⟨j, by omega, h2, hx⟩
  · rintro (hx | ⟨j, h1, h2, hx⟩)
    · exact .inr ⟨taken + 1, by omega, by omega, hx⟩
    · exact .inr ⟨j, by omega, h2, hx⟩
theorem Way.no {p k : List Txt} {at' i taken : Nat} (h : Way p k at' i 0 taken) (hi : i < k.length) (hbad : at' = p.length ∨ ∃ x y, p[at']? = some x ∧ k[i]? = some y ∧ x ≠ HASH ∧ x ≠ STAR ∧ x ≠ y) : mt p k = false := by
  rw [h.none rfl, h.stuck hi hbad]
/-- Of no word: just what is # all along. -/
theorem mt_empty : ∀ p : List Txt, mt p [] = p.all (fun x => decide (x = HASH))
  | [] => rfl
  | x :: t => by
    by_cases hx : x = HASH
    · subst hx
      rw [mt, if_pos rfl]
      simp [mt_empty t]
    · rw [mt_none hx]; simp [hx]
theorem Way.done {p k : List Txt} {at' last taken : Nat} (h : Way p k at' k.length last taken) : mt p k = (p.drop at').all (fun x => decide (x = HASH)) := by
  rw [← mt_empty]
  have e : k.drop k.length = [] := by simp
  by_cases h0 : last = 0
  · rw [h.none h0, e]
  · have hh := h.hash h0
    rw [e] at hh
    rw [Bool.eq_iff_iff, hh.2.2.2]
    constructor
    · rintro (hx | ⟨j, h1, h2, hx⟩)
      · exact hx
      · exfalso
        have := h.mid h0 hx
        have := h.ht
        have := hh.2.1
        omega
    · exact fun hx => .inl hx
/-- What is left of # alone, step by step. -/
theorem all_hash {p : List Txt} {j : Nat} (h : p[j]? = some HASH) : (p.drop j).all (fun x => decide (x = HASH)) = (p.drop (j + 1)).all (fun x => decide (x = HASH)) := by
  rw [drop_at h]; simp
theorem all_other {p : List Txt} {j : Nat} {x : Txt} (h : p[j]? = some x) (hx : x ≠ HASH) : (p.drop j).all (fun x => decide (x = HASH)) = false := by
  rw [drop_at h]; simp [hx]
theorem all_end (p : List Txt) : (p.drop p.length).all (fun x => decide (x = HASH)) = true := by simp
/-- Names. -/
def plainB (b : UInt8) : Bool := decide (97 ≤ b ∧ b ≤ 122) || decide (65 ≤ b ∧ b ≤ 90) || decide (48 ≤ b ∧ b ≤ 57) || decide (b = 45) || decide (b = 95)
def nameB (s : Txt) : Bool := decide (s ≠ []) && decide (s.length ≤ 32) && s.all plainB
def keyB (s : Txt) : Bool := decide ((words s).length ≤ 8) && (words s).all nameB
def wordB (w : Txt) : Bool := decide (w = STAR) || decide (w = HASH) || nameB w
def patB (s : Txt) : Bool := decide ((words s).length ≤ 8) && (words s).all wordB
theorem name_not {w : Txt} (h : nameB w = true) : w ≠ HASH ∧ w ≠ STAR := by
  constructor <;> (rintro rfl; revert h; decide)
/-- A key matches itself. -/
theorem mt_self : ∀ k : List Txt, (∀ x ∈ k, x ≠ HASH) → mt k k = true
  | [], _ => rfl
  | x :: t, h => by
    rw [mt_one (h x (List.mem_cons_self ..)), mt_self t (fun y hy => h y (List.mem_cons_of_mem _ hy))]
    simp
theorem mt_hashes (k : List Txt) : mt [HASH] k = true := (mt_hash [] k).2 ⟨k.length, Nat.le_refl _, by simp [mt_nil]⟩
theorem star_ne : STAR ≠ HASH := by decide
theorem mt_stars : ∀ (n : Nat) (k : List Txt), mt (List.replicate n STAR) k = decide (k.length = n)
  | 0, k => by cases k <;> rfl
  | n + 1, [] => by rw [List.replicate_succ, mt_none star_ne]; simp
  | n + 1, x :: t => by rw [List.replicate_succ, mt_one star_ne, mt_stars n t]; simp
theorem mt_ahead {p k : List Txt} (h : mt p k = true) : mt (HASH :: p) k = true := (mt_hash p k).2 ⟨0, Nat.zero_le _, by simpa using h⟩
theorem mt_behind : ∀ (p k : List Txt), mt p k = true → mt (p ++ [HASH]) k = true
  | [], k, h => by
    rw [mt_nil] at h
    have : k = [] := by simpa using h
    subst this
    exact mt_hashes []
  | x :: t, k, h => by
    by_cases hx : x = HASH
    · subst hx
      obtain ⟨i, hi, hm⟩ := (mt_hash _ _).1 h
      exact (mt_hash _ _).2 ⟨i, hi, mt_behind _ _ hm⟩
    · cases k with
      | nil => rw [mt_none hx] at h; cases h
      | cons y ys =>
        rw [mt_one hx, Bool.and_eq_true] at h
        rw [List.cons_append, mt_one hx, h.1, Bool.true_and]
        exact mt_behind _ _ h.2
theorem words_behind {s : Txt} (h : s ≠ []) : words (s ++ [46, 35]) = words s ++ [HASH] := by
  rw [words_of_ne h, words_of_ne (by simp), show s ++ [46, 35] = s ++ 46 :: [35] from rfl, parts_join]
  rfl
theorem words_ahead {s : Txt} (h : s ≠ []) : words (35 :: 46 :: s) = HASH :: words s := by
  rw [words_of_ne h, words_of_ne (by simp), show (35 : UInt8) :: 46 :: s = [35] ++ 46 :: s from rfl, parts_join]
  rfl
theorem words_hash : words [35] = [HASH] := by rfl
/-- The stars. -/
def stars : Nat → Txt
  | 0 => []
  | n + 1 => stars n ++ [46, 42]
theorem stars_len : ∀ n, (stars n).length = 2 * n
  | 0 => rfl
  | n + 1 => by simp [stars, stars_len n]; omega
theorem stars_cons : ∀ n, stars (n + 1) = 46 :: 42 :: stars n
  | 0 => rfl
  | n + 1 => by
    show stars (n + 1) ++ [46, 42] = 46 :: 42 :: (stars n ++ [46, 42])
    rw [stars_cons n]; rfl
theorem parts_stars : ∀ n, parts (42 :: stars n) = List.replicate (n + 1) STAR
  | 0 => rfl
  | n + 1 => by
    rw [stars_cons, show (42 : UInt8) :: 46 :: 42 :: stars n = [42] ++ 46 :: (42 :: stars n) from rfl, parts_join, parts_stars n]
    rfl
/-- Without their first point. -/
def strs (n : Nat) : Txt := (stars n).drop 1
theorem strs_succ (n : Nat) : strs (n + 1) = 42 :: stars n := by rw [strs, stars_cons]; rfl
theorem words_strs (n : Nat) : words (strs n) = List.replicate n STAR := by
  cases n with
  | zero => rfl
  | succ n => rw [strs_succ, words_of_ne (by simp), parts_stars]
theorem words_strs_more (n : Nat) (h : n ≠ 0) : words (strs n ++ [46, 42]) = List.replicate (n + 1) STAR := by
  cases n with
  | zero => exact absurd rfl h
  | succ n =>
    rw [strs_succ, List.cons_append, show stars n ++ [46, 42] = stars (n + 1) from rfl, words_of_ne (by simp), parts_stars]
theorem words_zero {s : Txt} (h : (words s).length = 0) : s = [] := by
  unfold words at h
  split at h
  · assumption
  · have := parts_ne s
    exact absurd (List.length_eq_zero_iff.1 h) this
end Go.Proofs.YtdghhffknfkcaaaGreatDoor.Tp
/- Texts as bytes; rows of texts that a slice shows. -/
namespace Go.Proofs.YtdghhffknfkcaaaGreatDoor
open Go.RowKit
open Tp (Txt)
theorem strL (t : Txt) : (str t).toList = t := by simp [str, ByteArray.toList_eq]
theorem str_inj {a b : List UInt8} (h : str a = str b) : a = b := by
  have := congrArg (fun s => s.data.toList) h
  exact this
theorem str_at (t : List UInt8) (j : Nat) (c : UInt8) (h : t[j]? = some c) : ∀ hh : j < (str t).size, ((str t)[j]'hh).toNat = c.toNat := by
  intro hh
  obtain ⟨hj, he⟩ := List.getElem?_eq_some_iff.1 h
  show (t.toArray[j]'(by simpa using hj)).toNat = _
  simp [he]
theorem extract_one (t : List UInt8) (j : Nat) (c : UInt8) (h : t[j]? = some c) : (str t).extract j (j + 1) = str [c] := by
  obtain ⟨hj, he⟩ := List.getElem?_eq_some_iff.1 h
  apply ByteArray.ext
  simp only [str]
  rw [ByteArray.data_extract]
  apply Array.ext
  · simp; omega
  · intro i h1 h2
    simp at h2
    subst h2
    simp [he]
theorem slice_one (t : List UInt8) (j : Nat) (c : UInt8) (h : t[j]? = some c) (W : World) :
    (Instr.slice 9 (.string (str t)) (some (.int .i64 j)) (some (.int .i64 ((j : Int) + 1))) none).run Tryz.prog W = .ok (.string (str [c])) W := by
  have hj := (List.getElem?_eq_some_iff.1 h).1
  rw [run_slice_string W 9 (str t) .i64 .i64 j ((j : Int) + 1) Tryz.underlying9 (by omega) (by omega) (by rw [str_size]; omega), ← extract_one t j c h]
  rfl
theorem take_snocT {α : Type} {l : List α} {k : Nat} {y : α} (h : l[k]? = some y) : l.take (k + 1) = l.take k ++ [y] := by rw [List.take_add_one, h]; rfl
variable {α : Type} {enc : α → Value} {t : TypeId} {w w' : World} {B B' : Nat} {v : Value} {l : List α}
/-- A slice that can be cut. -/
def SlTc (w : World) (v : Value) (l : List Txt) : Prop :=
  ∃ (a : Option Addr) (b o c : Nat), v = .slice a l.length c ∧ l.length ≤ c ∧ c ≤ maxLen ∧ (l = [] ∨ a = some ⟨b, o, none⟩) ∧ ∀ (j : Nat) x, l[j]? = some x → w.cell? ⟨b, o + j, none⟩ = some (eS x)
theorem SlTc.below {B : Nat} {w w' : World} {v : Value} {l : List Txt} (h : SlTc w v l) (hs : B = w.heap.size) (hb : Below B w w') : SlTc w' v l := by
  subst hs
  obtain ⟨a, b, o, c, hv, h1, h2, ha, hx⟩ := h
  refine ⟨a, b, o, c, hv, h1, h2, ha, fun j x hj => ?_⟩
  have h0 := hx j x hj
  exact (hb.cell (p := ⟨b, o + j, none⟩) (World.block_lt_of_cell? _ _ h0)).trans h0
theorem SlTc.sl {w : World} {v : Value} {l : List Txt} (h : SlTc w v l) : SlS w v l := by
  obtain ⟨a, b, o, c, hv, h1, h2, ha, hx⟩ := h
  exact ⟨a, b, o, c, hv, ha, hx⟩
theorem SlTc.slice {w : World} {v : Value} {l : List Txt} (h : SlTc w v l) : ∃ a c, v = .slice a l.length c ∧ l.length ≤ c ∧ c ≤ maxLen := by
  obtain ⟨a, b, o, c, hv, h1, h2, _⟩ := h
  exact ⟨a, c, hv, h1, h2⟩
theorem RowP.slc {w : World} {B : Nat} {v : Value} {l : List Txt} (h : RowS w B v l) : SlTc w v l := by
  rcases h.open with ⟨rfl, rfl⟩ | ⟨g, cap, cur, rfl, _, _, h1, h2, _⟩
  · exact ⟨none, 0, 0, 0, rfl, Nat.le_refl _, Nat.zero_le _, .inl rfl, fun j p hj => by simp at hj⟩
  · exact ⟨_, g, 0, cap, rfl, h1, h2, .inr rfl, fun j x hj => by rw [Nat.zero_add]; exact ((h.cells rfl).2 j x hj).1⟩
end Go.Proofs.YtdghhffknfkcaaaGreatDoor
/- topic.Name, and the document's. -/
namespace Go.Proofs.YtdghhffknfkcaaaGreatDoor
open Go.RowKit
open Tp
theorem plain_bits (c : UInt8) : plainB c = (decide (97 ≤ (c.toNat : Int)) && decide ((c.toNat : Int) ≤ 122) || decide (65 ≤ (c.toNat : Int)) && decide ((c.toNat : Int) ≤ 90) || decide (48 ≤ (c.toNat : Int)) && decide ((c.toNat : Int) ≤ 57) || decide ((c.toNat : Int) = 45) || decide ((c.toNat : Int) = 95)) := by
  unfold plainB
  rw [Bool.eq_iff_iff]
  simp only [Bool.or_eq_true, Bool.and_eq_true, decide_eq_true_eq, UInt8.le_iff_toNat_le, ← UInt8.toNat_inj]
  have h : c.toNat < 256 := c.toNat_lt
  simp only [show (97 : UInt8).toNat = 97 from rfl, show (122 : UInt8).toNat = 122 from rfl, show (65 : UInt8).toNat = 65 from rfl, show (90 : UInt8).toNat = 90 from rfl, show (48 : UInt8).toNat = 48 from rfl, show (57 : UInt8).toNat = 57 from rfl, show (45 : UInt8).toNat = 45 from rfl, show (95 : UInt8).toNat = 95 from rfl]
  omega
theorem plain_any (c : UInt8) (w : World) : Calls Tryz.prog 84 #[.int .u8 c.toNat] w fun e w' => e = .returned (.bool (plainB c)) ∧ w = w' := by
  have HP := Lib.hid (plain_bits c)
  go_enter Tryz.func84, Tryz.ntmps84
  go_wp2
  all_goals
    go_ret
    refine ⟨ret_bool ?_, rfl⟩
    rw [HP.out]
    rw [Bool.eq_iff_iff]
    simp only [Bool.or_eq_true, Bool.and_eq_true, decide_eq_true_eq, beq_iff_eq]
    first | omega | (simp; omega) | (simp; done)
def GOOD : Txt := [97, 98, 99, 100, 101, 102, 103, 104, 105, 106, 107, 108, 109, 110, 111, 112, 113, 114, 115, 116, 117, 118, 119, 120, 121, 122, 65, 66, 67, 68, 69, 70, 71, 72, 73, 74, 75, 76, 77, 78, 79, 80, 81, 82, 83, 84, 85, 86, 87, 88, 89, 90, 48, 49, 50, 51, 52, 53, 54, 55, 56, 57, 45, 95]
theorem good_plain : ∀ c : UInt8, GOOD.any (fun g => decide (g = c)) = plainB c := by
  have h : ∀ n : Fin 256, GOOD.any (fun g => decide (g = UInt8.ofNat n.val)) = plainB (UInt8.ofNat n.val) := by decide +kernel
  intro c
  have := h ⟨c.toNat, c.toNat_lt⟩
  simpa using this
theorem name_long {s : Txt} (h : 32 < s.length) : nameB s = false := by
  unfold nameB
  rw [decide_eq_false (p := s.length ≤ 32) (by omega)]
  simp
theorem name_at {s : Txt} {k : Nat} {c : UInt8} (h : s[k]? = some c) (hp : plainB c = false) : nameB s = false := by
  unfold nameB
  have : s.all plainB = false := by
    rw [List.all_eq_false]
    exact ⟨c, List.mem_of_getElem? h, by simp [hp]⟩
  rw [this, Bool.and_false]
theorem all_snoc {p : UInt8 → Bool} {s : Txt} {k : Nat} {c : UInt8} (h : s[k]? = some c) : (s.take (k + 1)).all p = ((s.take k).all p && p c) := by
  rw [take_snocT h, List.all_append]; simp
theorem name_all {s : Txt} (h0 : s ≠ []) (h1 : s.length ≤ 32) (h : (s.take s.length).all plainB = true) : nameB s = true := by
  unfold nameB
  rw [List.take_length] at h
  simp [h0, h1, h]
set_option maxHeartbeats 1000000 in
theorem name_any (s : Txt) (hs : s.length ≤ 100000) (w : World) : Calls Tryz.prog 43 #[.string (str s)] w fun e w' => e = .returned (.bool (nameB s)) ∧ w = w' := by
  have hz : (str s).size = s.length := rfl
  by_cases h0 : s = []
  · subst h0
    have he : (str ([] : Txt)).toList.isEmpty = true := by rw [strL]; rfl
    go_enter Tryz.func43, Tryz.ntmps43
    go_wp2
    go_ret
    exact ⟨rfl, rfl⟩
  · have hn : (str s).toList = s := strL s
    have hn1 : s.isEmpty = false := by cases s with | nil => exact absurd rfl h0 | cons _ _ => rfl
    by_cases h1 : 32 < s.length
    · have h1i : (32 : Int) < (s.length : Int) := by omega
      go_enter Tryz.func43, Tryz.ntmps43
      go_wp2
      go_ret
      exact ⟨ret_bool (name_long h1).symm, rfl⟩
    · have h1i : ¬ (32 : Int) < (s.length : Int) := by omega
      go_enter Tryz.func43, Tryz.ntmps43
      go_wp2
      go_loopg [13] s.length (fun g i wr => ∃ k : Nat, k ≤ s.length ∧ g = s.length - k ∧ i = .int .i64 k ∧ Hid ((s.take k).all plainB = true) ∧ w = wr)
      case atStart => exact ⟨0, Nat.zero_le _, rfl, rfl, rfl, rfl⟩
      case round =>
        obtain ⟨k, hk, rfl, rfl, HA, rfl⟩ := hrel
        by_cases hlt : k < s.length
        · obtain ⟨c, hc⟩ := some_atP hlt
          have hidx := str_at s k c hc
          by_cases hp : plainB c = true
          · have HS : Hid ((s.take (k + 1)).all plainB = true) := by show _ = _; rw [all_snoc hc, HA.out, hp]; rfl
            have HP := Lib.hid hp
            clear hp hc
            go_wp2_with (go_at_call 84; refine (plain_any _ _).mono ?_; rintro e w1 ⟨rfl, rfl⟩; rw [HP.out])
            go_roundg (s.length - (k + 1))
            case rel => exact ⟨k + 1, by omega, rfl, by go_num, HS, rfl⟩
            case measure => omega
          · have hp' : plainB c = false := by simpa using hp
            have HN := Lib.hid (name_at hc hp')
            have HP := Lib.hid hp'
            clear hp hp' hc
            go_wp2_with (go_at_call 84; refine (plain_any _ _).mono ?_; rintro e w1 ⟨rfl, rfl⟩; rw [HP.out])
            go_ret
            exact ⟨ret_bool HN.out.symm, rfl⟩
        · obtain rfl : k = s.length := by omega
          have HN := Lib.hid (name_all h0 (by omega) HA.out)
          go_wp2
          go_ret
          exact ⟨ret_bool HN.out.symm, rfl⟩
theorem good_any (c : UInt8) (j : Nat) (x : UInt8) (h : GOOD[j]? = some x) : (GOOD.take (j + 1)).any (fun g => decide (g = c)) = ((GOOD.take j).any (fun g => decide (g = c)) || decide (x = c)) := by
  rw [take_snocT h, List.any_append]; simp
theorem name_end {s : Txt} (h : (s.take s.length).all plainB = true) : nameB s = (decide (0 < s.length) && decide (s.length ≤ 32)) := by
  unfold nameB
  rw [List.take_length] at h
  rw [h, Bool.and_true]
  congr 1
  cases s <;> simp
theorem good_str : (⟨#[97, 98, 99, 100, 101, 102, 103, 104, 105, 106, 107, 108, 109, 110, 111, 112, 113, 114, 115, 116, 117, 118, 119, 120, 121, 122, 65, 66, 67, 68, 69, 70, 71, 72, 73, 74, 75, 76, 77, 78, 79, 80, 81, 82, 83, 84, 85, 86, 87, 88, 89, 90, 48, 49, 50, 51, 52, 53, 54, 55, 56, 57, 45, 95]⟩ : ByteArray) = str GOOD := rfl
set_option maxHeartbeats 4000000 in
theorem rName_any (s : Txt) (hs : s.length ≤ 100000) (w : World) : Calls Tryz.prog 67 #[.string (str s)] w fun e w' => e = .returned (.bool (nameB s)) ∧ ∃ q, w' = w.drewN q := by
  have hz : (str s).size = s.length := rfl
  have hg : (str GOOD).size = 64 := rfl
  go_enter Tryz.func67, Tryz.ntmps67
  simp only [good_str]
  go_wp2
  go_loopg [3] s.length (fun g i wr => ∃ k q : Nat, k ≤ s.length ∧ g = s.length - k ∧ i = .int .i64 k ∧ Hid ((s.take k).all plainB = true) ∧ wr = w.drewN q)
  case atStart => exact ⟨0, 0, Nat.zero_le _, rfl, rfl, rfl, rfl⟩
  case round =>
    obtain ⟨k, q, hk, rfl, rfl, HA, rfl⟩ := hrel
    by_cases hlt : k < s.length
    · obtain ⟨c, hc⟩ := some_atP hlt
      have hidx := str_at s k c hc
      have HC := Lib.hid hc
      clear hc
      go_wp2_with fail
      go_loopg [4, 5] 64 (fun g b j wr => ∃ m q : Nat, m ≤ 64 ∧ g = 64 - m ∧ j = .int .i64 m ∧ b = .bool ((GOOD.take m).any (fun g => decide (g = c))) ∧ wr = w.drewN q)
      case atStart => exact ⟨0, q, by omega, rfl, rfl, rfl, rfl⟩
      case round =>
        obtain ⟨m, q2, hm, rfl, rfl, rfl, rfl⟩ := hrel
        by_cases hm64 : m < 64
        · obtain ⟨x, hx⟩ := some_atP (show m < GOOD.length from hm64)
          have hidx2 := str_at GOOD m x hx
          have HG := Lib.hid (good_any c m x hx)
          clear hx
          revert HG
          generalize (GOOD.take m).any (fun g => decide (g = c)) = b0
          intro HG
          have HQ : ∀ (W : World) q, W.drewN q = W.drewN q := fun _ _ => rfl
          clear HQ
          by_cases hxc : x = c
          · subst hxc
            have HR : Hid ((GOOD.take (m + 1)).any (fun g => decide (g = x)) = true) := by show _ = _; rw [HG.out]; simp
            clear HG
            cases b0
            all_goals
              go_wp2_with fail
              go_quiet (fail)
              go_wp2
              go_roundg (64 - (m + 1))
              case rel => exact ⟨m + 1, _, by omega, rfl, by go_num, by rw [HR.out], rfl⟩
              case measure => omega
          · have hne : ((x.toNat : Int) == (c.toNat : Int)) = false := by
              rw [beq_eq_false_iff_ne]; intro h; exact hxc (UInt8.toNat_inj.1 (by omega))
            have HR : Hid ((GOOD.take (m + 1)).any (fun g => decide (g = c)) = b0) := by show _ = _; rw [HG.out, decide_eq_false hxc, Bool.or_false]
            clear HG hxc
            cases b0
            all_goals
              go_wp2_with fail
              go_quiet (fail)
              go_wp2
              go_roundg (64 - (m + 1))
              case rel => exact ⟨m + 1, _, by omega, rfl, by go_num, by rw [HR.out], rfl⟩
              case measure => omega
        · obtain rfl : m = 64 := by omega
          rw [show (GOOD.take 64).any (fun g => decide (g = c)) = plainB c from good_plain c]
          by_cases hp : plainB c = true
          · have HS : Hid ((s.take (k + 1)).all plainB = true) := by show _ = _; rw [all_snoc HC.out, HA.out, hp]; rfl
            rw [hp]
            clear hp
            go_wp2
            go_roundg (s.length - (k + 1))
            case rel => exact ⟨k + 1, _, by omega, rfl, by go_num, HS, rfl⟩
            case measure => omega
          · have hp' : plainB c = false := by simpa using hp
            have HN := Lib.hid (name_at HC.out hp')
            rw [hp']
            clear hp hp'
            go_wp2
            go_ret
            exact ⟨ret_bool HN.out.symm, _, rfl⟩
    · obtain rfl : k = s.length := by omega
      have HN := Lib.hid (name_end HA.out)
      go_wp2
      all_goals
        go_ret
        refine ⟨ret_bool ?_, _, rfl⟩
        rw [HN.out]
        first | (rw [Bool.eq_iff_iff]; simp only [Bool.and_eq_true, decide_eq_true_eq]; omega) | (simp; omega)
end Go.Proofs.YtdghhffknfkcaaaGreatDoor
/- Declare of a queue that has a name alone, over a shelf. -/
namespace Go.Proofs.YtdghhffknfkcaaaGreatDoor
open Go.RowKit Go.Sort Go.Maps
theorem esc_len : ∀ s : List UInt8, (Ord.esc s).length ≤ 2 * s.length
  | [] => by simp [Ord.esc]
  | b :: l => by
    have := esc_len l
    unfold Ord.esc
    split <;> simp <;> omega
theorem kQ_len (nm : Txt) : (kQ nm).length ≤ 7 + 2 * nm.length := by
  have h1 := esc_len nm
  unfold kQ Ord.key Ord.pb pS
  simp [Ord.esc]
  omega
def q0 (nm : Txt) : Qu := ⟨str nm, 0, 0, 0, ⟨#[]⟩⟩
theorem nameB_len {nm : Txt} (h : Tp.nameB nm = true) : nm ≠ [] ∧ nm.length ≤ 32 := by
  unfold Tp.nameB at h
  simp at h
  exact ⟨h.1.1, h.1.2⟩
theorem q0_len (nm : Txt) : (1 :: encQ (q0 nm)).length ≤ 65536 := by
  rw [List.length_cons, encQ_len]; show 20 + 0 + 1 ≤ 65536; omega
set_option maxHeartbeats 4000000 in
theorem declare0 {N : Nat} {M : Nat → Prop} {w : World} {p : Nat} {ks : List Txt} {f : Txt → Txt} (h : ShW N M w p ks f) (hN : N ≤ 80000) (nm : Txt) (hn : Tp.nameB nm = true) (m : Int) (hm : w.cell? ⟨0, 0, none⟩ = some (.int .i64 m)) :
    Calls Tryz.prog 15 #[.iface 25 (.pointer (some ⟨p, 0, none⟩)), .agg #[.string (str nm), .int .u32 0, .int .u64 0, .int .u32 0, .string ⟨#[]⟩]] w fun e w' =>
      (((findOut ks f nm).2.2 ≠ 0 ∧ e = .returned (.int .i64 (findOut ks f nm).2.2) ∧ Below w.heap.size w w')
      ∨ ((findOut ks f nm).2.2 = 0 ∧ (findOut ks f nm).2.1 = true ∧ e = .returned (.int .i64 22) ∧ Below w.heap.size w w')
      ∨ ((findOut ks f nm).2.2 = 0 ∧ (findOut ks f nm).2.1 = false ∧ e = .returned (.int .i64 0) ∧ ∃ M' ks', addS ks (kQ nm) ks' ∧ ShW (N + 1) M' w' p ks' (putF f (kQ nm) (1 :: encQ (q0 nm))) ∧ Went M M' w w')) := by
  have h00 := World.block_lt_of_cell? _ _ hm
  obtain ⟨hne, hlen⟩ := nameB_len hn
  have hkq : (kQ nm).length ≤ 255 := by have := kQ_len nm; omega
  have e1 : kS [pS [113], pS nm] = kQ nm := if_pos hkq
  have e2 : kE [pS [113], pS nm] = 0 := if_pos hkq
  obtain ⟨w0, hw0⟩ : ∃ w0, w0 = w.alloc (.cells #[.string (str nm), .int .u32 0, .int .u64 0, .int .u32 0, .string ⟨#[]⟩] 36) := ⟨_, rfl⟩
  have bA : Below w.heap.size w w0 := by rw [hw0]; exact (Below.refl _ _).alloc (Nat.le_refl _) _
  have x0 : BoxL w0 w.heap.size 36 #[.string (str nm), .int .u32 0, .int .u64 0, .int .u32 0, .string ⟨#[]⟩] := by rw [hw0]; exact BoxL.new w _ _
  have HM : Hid (∀ W, Below w.heap.size w W → W.cell? ⟨0, 0, none⟩ = some (.int .i64 m)) := fun W hW => (hW.cell (p := ⟨0, 0, none⟩) h00).trans hm
  have HN := Lib.hid (name_any nm (by omega) w0)
  rw [hn] at HN
  have HF : Hid (∀ W, Below w.heap.size w W → Calls Tryz.prog 35 #[.iface 25 (.pointer (some ⟨p, 0, none⟩)), .string (str nm)] W fun e w' => e = .returned (.tuple #[aggQ (findOut ks f nm).1, .bool (findOut ks f nm).2.1, .int .i64 (findOut ks f nm).2.2]) ∧ Below W.heap.size W w') := fun W hW => find_any (h.below hW) nm (by omega) m (HM.out W hW)
  have HK : Hid (∀ W, Below w.heap.size w W → Calls Tryz.prog 16 #[.string (str nm)] W fun e w' => e = .returned (.tuple #[.string (str (kQ nm)), .int .i64 0]) ∧ Below W.heap.size W w') := fun W hW => by
    have := skeyQ_any nm (by omega) m W (HM.out W hW)
    rw [e1, e2] at this
    exact this
  have HQ := Lib.hid (fun W => queues_any (str nm) W)
  have HB : Hid (∀ W cd, CdQ W cd (str nm) → Calls Tryz.prog 50 #[cd, .agg #[.string (str nm), .int .u32 0, .int .u64 0, .int .u32 0, .string ⟨#[]⟩]] W fun e w' => e = .returned (.string (str (1 :: encQ (q0 nm)))) ∧ Below W.heap.size W w') := fun W cd hc => hc.bytes (q0 nm) ⟨by show (0 : Nat) < _; omega, by show (0 : Nat) < _; omega, by show (0 : Nat) < _; omega, by show (0 : Nat) < _; omega⟩
  have HP : Hid (∀ W, Below w.heap.size w W → Calls Tryz.prog 41 #[.iface 25 (.pointer (some ⟨p, 0, none⟩)), .string (str (kQ nm)), .string (str (1 :: encQ (q0 nm)))] W fun e w' => e = .returned (.int .i64 0) ∧ ∃ M' ks', addS ks (kQ nm) ks' ∧ ShW (N + 1) M' w' p ks' (putF f (kQ nm) (1 :: encQ (q0 nm))) ∧ Went M M' w w') := fun W hb =>
    (askPut_any (h.below hb) hN (kQ nm) _ hkq (q0_len nm)).mono (fun e w' ⟨h1, M', ks', h2, h3, h4⟩ => ⟨h1, M', ks', h2, h3, h4.pre hb⟩)
  have hstr : (str nm).toList.isEmpty = false := by
    rw [str_list]
    cases nm with
    | nil => exact absurd rfl hne
    | cons c t => rfl
  have HX := Lib.hid x0
  have HA := Lib.hid bA
  have k0 := x0.cell (i := 0) rfl
  have k1 := x0.cell (i := 1) rfl
  have k2 := x0.cell (i := 2) rfl
  have k3 := x0.cell (i := 3) rfl
  have k4 := x0.cell (i := 4) rfl
  rw [hw0] at HN k0 k1 k2 k3 k4
  have HW0 := Lib.hid hw0
  clear e1 e2 hm h h00 hne hlen hn hkq x0 bA hw0
  revert HF
  generalize findOut ks f nm = r
  intro HF
  obtain ⟨q, b, e⟩ := r
  unfold aggQ at HF
  simp only at HF ⊢
  have HBL : Hid (∀ w2, Below w0.heap.size w0 w2 → Below w.heap.size w (w2.alloc (.cells #[.string q.nm, .int .u32 q.most, .int .u64 q.ttl, .int .u32 q.tries, .string q.dead] 36))) := fun w2 hb => (below_step HA.out hb).trans (((Below.refl _ _).alloc (Nat.le_refl _) _).mono (below_step HA.out hb).size)
  by_cases he : e = 0
  · subst he
    cases b with
    | true =>
      go_enter Tryz.func15, Tryz.ntmps15
      go_wp2_with (first
        | (go_at_call 43; refine HN.out.mono ?_; rintro e1 w1 ⟨rfl, rfl⟩)
        | (go_at_call 35; refine (HF.out _ (by rw [← HW0.out]; exact HA.out)).mono ?_; rintro e2 w2 ⟨rfl, hb2⟩))
      go_ret
      exact .inr (.inl ⟨by trivial, by trivial, by trivial, HBL.out _ (by rw [HW0.out]; exact hb2)⟩)
    | false =>
      go_enter Tryz.func15, Tryz.ntmps15
      go_upto_region 17 with (first
        | (go_at_call 43; refine HN.out.mono ?_; rintro e1 w1 ⟨rfl, rfl⟩)
        | (go_at_call 16; refine (HK.out _ (HBL.out _ (by rw [HW0.out]; exact hb2))).mono ?_; rintro e3 w3 ⟨rfl, hb3⟩)
        | (go_at_call 35; refine (HF.out _ (by rw [← HW0.out]; exact HA.out)).mono ?_; rintro e2 w2 ⟨rfl, hb2⟩; have xx := (HX.out.below (by rw [HW0.out]; exact hb2) HX.out.lt).alloc (.cells #[.string q.nm, .int .u32 q.most, .int .u64 q.ttl, .int .u32 q.tries, .string q.dead] 36); have j0 := xx.cell (i := 0) rfl; have j4 := xx.cell (i := 4) rfl; have HXX := Lib.hid xx))
      have HB3 : Hid (Below w.heap.size w w3) := below_step (HBL.out _ (by rw [HW0.out]; exact hb2)) hb3
      have x3 := HXX.out.below hb3 HXX.out.lt
      have n0 := x3.cell (i := 0) rfl
      have n1 := x3.cell (i := 1) rfl
      have n2 := x3.cell (i := 2) rfl
      have n3 := x3.cell (i := 3) rfl
      have n4 := x3.cell (i := 4) rfl
      have HX3 : Hid (BoxL w3.drew w.heap.size 36 #[.string (str nm), .int .u32 0, .int .u64 0, .int .u32 0, .string ⟨#[]⟩]) := x3
      clear x3 HXX
      have hmx := mixed0
      go_region_with (first
        | (go_at_call 41; refine (HP.out _ (by first | exact below_step (below_step HB3.out.drew hb4) hb5 | exact below_step (below_step HB3.out hb4) hb5)).mono ?_; rintro e6 w6 ⟨rfl, hq⟩; have HQ6 := Lib.hid hq; clear hq)
        | (go_at_call 50; refine (HB.out _ _ hcd4).mono ?_; rintro e5 w5 ⟨rfl, hb5⟩)
        | (go_at_call 49; refine (HQ.out _).mono ?_; rintro e4 w4 ⟨cd4, rfl, hcd4, hb4⟩; have x4 := BoxL.below (W' := w4) HX3.out hb4 HX3.out.lt; have o0 := x4.cell (i := 0) rfl; have o1 := x4.cell (i := 1) rfl; have o2 := x4.cell (i := 2) rfl; have o3 := x4.cell (i := 3) rfl; have o4 := x4.cell (i := 4) rfl))
      all_goals
        go_wp2
        go_ret
        exact .inr (.inr ⟨by trivial, by trivial, by trivial, HQ6.out⟩)
  · have hb : (e != 0) = true := by simpa using he
    have HE := Lib.hid he
    clear he
    go_enter Tryz.func15, Tryz.ntmps15
    go_wp2_with (first
      | (go_at_call 43; refine HN.out.mono ?_; rintro e1 w1 ⟨rfl, rfl⟩)
      | (go_at_call 35; refine (HF.out _ (by rw [← HW0.out]; exact HA.out)).mono ?_; rintro e2 w2 ⟨rfl, hb2⟩))
    go_ret
    exact .inl ⟨HE.out, by trivial, HBL.out _ (by rw [HW0.out]; exact hb2)⟩
end Go.Proofs.YtdghhffknfkcaaaGreatDoor
/- The contract of Less, and of the laws' own example. -/
namespace Go.Proofs.YtdghhffknfkcaaaGreatDoor
open Go.RowKit
theorem Sl.nil (w : World) : Sl w (.slice none 0 0) [] := ⟨none, 0, 0, 0, rfl, .inl rfl, fun j p hj => by simp at hj⟩
theorem Sl.one (w : World) (p : Ord.P) (T : TypeId) : Sl (w.alloc (.cells #[.bool p.t, .int .u64 p.n, .string (str p.s)] T)) (.slice (some ⟨w.heap.size, 0, none⟩) 1 1) [p] := by
  refine ⟨_, w.heap.size, 0, 1, rfl, .inr rfl, fun j q hj => ?_⟩
  match j, hj with
  | 0, hj =>
    simp at hj
    subst hj
    refine ⟨?_, ?_, ?_⟩ <;> simp
theorem lessR_cons (p q : Ord.P) (l m : List Ord.P) : Ord.lessR (p :: l) (q :: m) = if Ord.lessP p q then true else if Ord.lessP q p then false else Ord.lessR l m := rfl
theorem drop_cons (l : List Ord.P) (k : Nat) (p : Ord.P) (h : l[k]? = some p) : l.drop k = p :: l.drop (k + 1) := by
  obtain ⟨hk, he⟩ := List.getElem?_eq_some_iff.1 h
  rw [List.drop_eq_getElem_cons hk, he]
theorem lessR_end (l m : List Ord.P) (k : Nat) (hk : k = min l.length m.length) : Ord.lessR (l.drop k) (m.drop k) = decide ((l.length : Int) < (m.length : Int)) := by
  rcases Nat.lt_or_ge l.length m.length with h | h
  · have h1 : l.drop k = [] := List.drop_of_length_le (by omega)
    rw [h1]
    cases hm : m.drop k with
    | nil => have := congrArg List.length hm; rw [List.length_drop] at this; simp at this; omega
    | cons a x => simp [Ord.lessR]; omega
  · have h1 : m.drop k = [] := List.drop_of_length_le (by omega)
    rw [h1]
    have h2 : ¬ ((l.length : Int) < (m.length : Int)) := by omega
    rw [decide_eq_false h2]
    cases l.drop k <;> rfl
end Go.Proofs.YtdghhffknfkcaaaGreatDoor
/- The contract of the laws' own example. -/
namespace Go.Proofs.YtdghhffknfkcaaaGreatDoor
open Go.RowKit
theorem keyOut_example : keyOut [⟨false, 1, []⟩] = .tuple #[.string ⟨#[1, 0, 0, 0, 0, 0, 0, 0, 1]⟩, .int .i64 0] := by
  rw [keyOut_ok _ (by decide)]; rfl
theorem keyExample (w1 W : World) (m : Int) (hW : W = w1.alloc (.cells #[.bool false, .int .u64 1, .string ⟨#[]⟩] 115)) (hm : w1.cell? ⟨0, 0, none⟩ = some (.int .i64 m)) :
    Calls Tryz.prog 51 #[.slice (some ⟨w1.heap.size, 0, none⟩) 1 1] W fun e w' => e = .returned (.tuple #[.string ⟨#[1, 0, 0, 0, 0, 0, 0, 0, 1]⟩, .int .i64 0]) ∧ Below W.heap.size W w' := by
  subst hW
  have := key_any _ [⟨false, 1, []⟩] (by decide) m _ (Sl.one w1 ⟨false, 1, []⟩ 115) (by intro p hp; simp at hp; subst hp; decide) (((Below.refl _ _).alloc (Nat.le_refl _) _ |>.cell (p := ⟨0, 0, none⟩) (World.block_lt_of_cell? _ _ hm)).trans hm)
  rw [keyOut_example] at this
  exact this
end Go.Proofs.YtdghhffknfkcaaaGreatDoor
