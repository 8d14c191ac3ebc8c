/- Plain facts on reading keys: a text up to its end, a part, a row; nothing of the program. -/
import Derived.Test.YtfoijhofpjaldaaDoorOMath
set_option maxRecDepth 100000
set_option maxHeartbeats 4000000
set_option linter.unusedVariables false
namespace Go.Proofs.YtfoijhofpjaldaaDoor
namespace Ord
open Oc
def un : List UInt8 → Option (List UInt8 × List UInt8)
  | [] => none
  | c :: R => if c = 0 then (match R with
      | [] => none
      | d :: R' => if d = 0 then some ([], R') else if d = 255 then (un R').map (fun x => (0 :: x.1, x.2)) else none) else (un R).map (fun x => (c :: x.1, x.2))
theorem un_cons {c : UInt8} (h : c ≠ 0) (R : List UInt8) : un (c :: R) = (un R).map (fun x => (c :: x.1, x.2)) := by rw [un.eq_def]; simp only [if_neg h]
theorem un_nil : un [] = none := by rw [un]
theorem un_zero : un [0] = none := by rw [un, if_pos rfl]
theorem un_end (R : List UInt8) : un (0 :: 0 :: R) = some ([], R) := by rw [un, if_pos rfl]; rfl
theorem un_go (R : List UInt8) : un (0 :: 255 :: R) = (un R).map (fun x => (0 :: x.1, x.2)) := by rw [un, if_pos rfl]; rfl
theorem un_bad {d : UInt8} (h0 : d ≠ 0) (h1 : d ≠ 255) (R : List UInt8) : un (0 :: d :: R) = none := by rw [un, if_pos rfl]; simp [h0, h1]
def pre (t : List UInt8) (x : List UInt8 × List UInt8) : List UInt8 × List UInt8 := (t ++ x.1, x.2)
theorem un_esc : ∀ (t R : List UInt8), un (esc t ++ R) = (un R).map (pre t)
  | [], R => by
    show un R = _
    cases un R <;> rfl
  | b :: t, R => by
    have ih := un_esc t R
    by_cases hb : b = 0
    · subst hb
      show un (0 :: 255 :: (esc t ++ R)) = _
      rw [un_go, ih]
      cases un R <;> rfl
    · rw [show esc (b :: t) = b :: esc t by simp [esc, hb]]
      show un (b :: (esc t ++ R)) = _
      rw [un_cons hb, ih]
      cases un R <;> rfl
theorem un_text (t R : List UInt8) : un (esc t ++ 0 :: 0 :: R) = some (t, R) := by
  rw [un_esc, un_end]
  simp [pre]
theorem un_some : ∀ (R t R' : List UInt8), un R = some (t, R') → R = esc t ++ 0 :: 0 :: R'
  | [], t, R', h => by rw [un_nil] at h; cases h
  | [c], t, R', h => by
    by_cases hc : c = 0
    · subst hc; rw [un_zero] at h; cases h
    · rw [un_cons hc, un_nil] at h; cases h
  | c :: d :: R, t, R', h => by
    by_cases hc : c = 0
    · subst hc
      by_cases h0 : d = 0
      · subst h0
        rw [un_end] at h
        cases h; rfl
      · by_cases h1 : d = 255
        · subst h1
          rw [un_go] at h
          cases hu : un R with
          | none => rw [hu] at h; cases h
          | some x =>
            rw [hu] at h
            cases h
            have := un_some R x.1 x.2 hu
            show 0 :: 255 :: R = _
            rw [this]
            simp [esc]
        · rw [un_bad h0 h1] at h; cases h
    · rw [un_cons hc] at h
      cases hu : un (d :: R) with
      | none => rw [hu] at h; cases h
      | some x =>
        rw [hu] at h
        cases h
        have := un_some (d :: R) x.1 x.2 hu
        rw [this]
        simp [esc, hc]
def pt : List UInt8 → Option (P × List UInt8)
  | [] => none
  | c :: R => if c = 1 then (if 8 ≤ R.length then some (⟨false, val (R.take 8), []⟩, R.drop 8) else none) else if c = 2 then (un R).map (fun x => (⟨true, 0, x.1⟩, x.2)) else none
theorem pt_pb (p : P) (hp : p.ok) (R : List UInt8) : pt (pb p ++ R) = some (p, R) := by
  obtain ⟨h1, h2⟩ := hp
  obtain ⟨t, n, s⟩ := p
  cases t
  · have hs : [] = s := by simpa [P.plain] using h1
    subst hs
    simp only at h2
    show pt (1 :: (big 8 n ++ R)) = _
    have hl := big_length 8 n
    simp only [pt, if_true]
    rw [if_pos (by rw [List.length_append]; omega), List.take_append_of_le_length (by omega), List.take_of_length_le (by omega), val_big 8 n h2, List.drop_append_of_le_length (by omega), List.drop_of_length_le (by omega)]
    rfl
  · have hn : 0 = n := by simpa [P.plain] using h1
    subst hn
    show pt (2 :: ((esc s ++ [0, 0]) ++ R)) = _
    simp only [pt]
    rw [if_neg (by decide), if_pos trivial, List.append_assoc]
    show (un (esc s ++ 0 :: 0 :: R)).map _ = _
    rw [un_text]
    rfl
theorem pt_some (R : List UInt8) (p : P) (R' : List UInt8) (h : pt R = some (p, R')) : R = pb p ++ R' ∧ p.ok := by
  cases R with
  | nil => cases h
  | cons c R =>
    simp only [pt] at h
    by_cases h1 : c = 1
    · subst h1
      rw [if_pos rfl] at h
      by_cases h8 : 8 ≤ R.length
      · rw [if_pos h8] at h
        cases h
        have hl : (R.take 8).length = 8 := by rw [List.length_take]; omega
        refine ⟨?_, ?_, ?_⟩
        · show 1 :: R = 1 :: big 8 (val (R.take 8)) ++ R.drop 8
          rw [big_val 8 _ hl]
          simp
        · rfl
        · show val (R.take 8) < _
          have := val_lt (R.take 8)
          rw [hl] at this
          exact this
      · rw [if_neg h8] at h; cases h
    · rw [if_neg h1] at h
      by_cases h2 : c = 2
      · subst h2
        rw [if_pos rfl] at h
        cases hu : un R with
        | none => rw [hu] at h; cases h
        | some x =>
          rw [hu] at h
          cases h
          refine ⟨?_, rfl, (show 0 < 18446744073709551616 by decide)⟩
          show 2 :: R = 2 :: (esc x.1 ++ [0, 0]) ++ x.2
          rw [un_some R x.1 x.2 hu]
          simp
      · rw [if_neg h2] at h; cases h
/-- Where no part begins behind a row that was read, the whole is the key of no row. -/
theorem no_row (l : List P) (hl : ∀ p ∈ l, p.ok) (R : List UInt8) (hR : R ≠ []) (hp : pt R = none) : ∀ m, (∀ p ∈ m, p.ok) → key l ++ R ≠ key m := by
  intro m hm he
  have hpre : key l <+: key m := ⟨R, he⟩
  obtain ⟨x, rfl⟩ := (keeps l m hl hm).2.2.1 hpre
  rw [key_append, List.append_cancel_left_eq] at he
  cases x with
  | nil => exact hR he
  | cons p x =>
    rw [key_cons] at he
    rw [he, pt_pb p (hm p (by simp))] at hp
    cases hp
theorem key_inj (l m : List P) (hl : ∀ p ∈ l, p.ok) (hm : ∀ p ∈ m, p.ok) (h : key l = key m) : l = m := (keeps l m hl hm).2.1.1 h
end Ord
end Go.Proofs.YtfoijhofpjaldaaDoor
