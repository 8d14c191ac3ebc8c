/- Plain arithmetic of keys: rows of parts as bytes, and their order; nothing of the program. -/
import Derived.Test.YtfoijhofpjaldaaDoorMath
set_option maxRecDepth 100000
set_option maxHeartbeats 4000000
set_option linter.unusedVariables false
namespace Go.Proofs.YtfoijhofpjaldaaDoor
namespace Ord
open Oc
def less : List UInt8 → List UInt8 → Bool
  | [], [] => false
  | [], _ :: _ => true
  | _ :: _, [] => false
  | a :: x, b :: y => a < b || (a == b && less x y)
inductive SL : List UInt8 → List UInt8 → Prop
  | here {a b : UInt8} {u v : List UInt8} (h : a < b) : SL (a :: u) (b :: v)
  | there {a : UInt8} {u v : List UInt8} (h : SL u v) : SL (a :: u) (a :: v)
theorem SL.app {u v : List UInt8} (h : SL u v) (x y : List UInt8) : SL (u ++ x) (v ++ y) := by
  induction h with
  | here h => exact .here h
  | there _ ih => exact .there ih
theorem SL.left {u v : List UInt8} (h : SL u v) : ∀ c : List UInt8, SL (c ++ u) (c ++ v)
  | [] => h
  | _ :: c => .there (SL.left h c)
theorem SL.lt {u v : List UInt8} (h : SL u v) : less u v = true := by
  induction h with
  | here h => simp [Ord.less, h]
  | there _ ih => simp [Ord.less, ih]
theorem SL.nlt {u v : List UInt8} (h : SL u v) : less v u = false := by
  induction h with
  | @here a b u v h =>
    have h1 : ¬ b < a := fun h2 => by rw [UInt8.lt_iff_toNat_lt] at h h2; omega
    have h2 : ¬ b = a := fun h2 => by rw [UInt8.lt_iff_toNat_lt, h2] at h; omega
    simp [Ord.less, h1, h2]
  | there _ ih =>
    have h1 : ∀ a : UInt8, ¬ a < a := fun a h => by rw [UInt8.lt_iff_toNat_lt] at h; omega
    simp [Ord.less, ih, h1]
theorem SL.ne {u v : List UInt8} (h : SL u v) : u ≠ v := by
  induction h with
  | here h => intro e; cases e; rw [UInt8.lt_iff_toNat_lt] at h; omega
  | there _ ih => intro e; cases e; exact ih rfl
theorem SL.not_prefix {u v : List UInt8} (h : SL u v) : ¬ u <+: v := by
  rintro ⟨x, e⟩
  have := h.app x []
  rw [e, List.append_nil] at this
  exact this.ne rfl
theorem SL.not_prefix' {u v : List UInt8} (h : SL u v) : ¬ v <+: u := by
  rintro ⟨x, e⟩
  have := h.app [] x
  rw [e, List.append_nil] at this
  exact this.ne rfl
theorem less_app (c : List UInt8) (u v : List UInt8) : less (c ++ u) (c ++ v) = less u v := by
  induction c with
  | nil => rfl
  | cons a c ih =>
    have h1 : ¬ a < a := fun h => by rw [UInt8.lt_iff_toNat_lt] at h; omega
    simp [less, h1, ih]
theorem less_self (u : List UInt8) : less u u = false := by
  have := less_app u [] []
  simpa [less] using this
theorem less_nil (u : List UInt8) : less u [] = false := by cases u <;> rfl
theorem ne_cases {a b : UInt8} (h : a ≠ b) : a < b ∨ b < a := by
  rw [UInt8.lt_iff_toNat_lt, UInt8.lt_iff_toNat_lt]
  have : a.toNat ≠ b.toNat := fun e => h (UInt8.toNat_inj.1 e)
  omega
/-- Three ways that two texts stand. -/
theorem three : ∀ u v : List UInt8, u <+: v ∨ (v <+: u ∧ u ≠ v) ∨ SL u v ∨ SL v u
  | [], v => Or.inl (List.nil_prefix)
  | a :: u, [] => Or.inr (Or.inl ⟨List.nil_prefix, by simp⟩)
  | a :: u, b :: v => by
    by_cases h : a = b
    · subst h
      rcases three u v with h | ⟨h, h'⟩ | h | h
      · exact Or.inl (List.cons_prefix_cons.2 ⟨rfl, h⟩)
      · exact Or.inr (Or.inl ⟨List.cons_prefix_cons.2 ⟨rfl, h⟩, fun e => h' (by cases e; rfl)⟩)
      · exact Or.inr (Or.inr (Or.inl (.there h)))
      · exact Or.inr (Or.inr (Or.inr (.there h)))
    · rcases ne_cases h with h | h
      · exact Or.inr (Or.inr (Or.inl (.here h)))
      · exact Or.inr (Or.inr (Or.inr (.here h)))
def esc : List UInt8 → List UInt8
  | [] => []
  | b :: l => if b = 0 then 0 :: 255 :: esc l else b :: esc l
theorem esc_append (u v : List UInt8) : esc (u ++ v) = esc u ++ esc v := by
  induction u with
  | nil => rfl
  | cons b u ih => simp only [List.cons_append, esc]; split <;> simp [ih]
theorem esc_length_le : ∀ l : List UInt8, l.length ≤ (esc l).length
  | [] => Nat.le_refl _
  | b :: l => by have := esc_length_le l; simp only [esc]; split <;> simp <;> omega
theorem esc_length_ge : ∀ l : List UInt8, (esc l).length ≤ 2 * l.length
  | [] => Nat.le_refl _
  | b :: l => by have := esc_length_ge l; simp only [esc]; split <;> simp <;> omega
theorem esc_SL : ∀ {s t : List UInt8}, less s t = true → SL (esc s ++ [0, 0]) (esc t ++ [0, 0])
  | [], [], h => by cases h
  | [], b :: t, _ => by
    simp only [esc]
    split
    · exact .there (.here (by decide))
    · rename_i hb
      refine .here ?_
      rcases ne_cases hb with h | h
      · exact absurd h (by rw [UInt8.lt_iff_toNat_lt]; exact Nat.not_lt_zero _)
      · exact h
  | _ :: _, [], h => by cases h
  | a :: s, b :: t, h => by
    by_cases he : a = b
    · subst he
      have h1 : ¬ a < a := fun h => by rw [UInt8.lt_iff_toNat_lt] at h; omega
      have ih : SL (esc s ++ [0, 0]) (esc t ++ [0, 0]) := esc_SL (by simpa [less, h1] using h)
      simp only [esc]
      split
      · exact .there (.there ih)
      · exact .there ih
    · have hlt : a < b := by simpa [less, he] using h
      have hb : b ≠ 0 := fun e => by rw [UInt8.lt_iff_toNat_lt, e] at hlt; exact Nat.not_lt_zero _ hlt
      simp only [esc]
      rw [if_neg hb]
      split
      · rename_i ha; subst ha; exact .here hlt
      · exact .here hlt
theorem big_SL : ∀ k {n m : Nat}, n < m → m < 256 ^ k → SL (big k n) (big k m)
  | 0, n, m, h, hm => by simp at hm; omega
  | k + 1, n, m, h, hm => by
    rw [Nat.pow_succ] at hm
    unfold big
    by_cases hq : n / 256 < m / 256
    · exact (big_SL k hq (by omega)).app _ _
    · have he : n / 256 = m / 256 := by omega
      rw [he]
      refine SL.left (.here ?_) _
      rw [UInt8.lt_iff_toNat_lt, UInt8.toNat_ofNat', UInt8.toNat_ofNat']
      omega
/-- A part with what counts alone. -/
structure P where
  t : Bool
  n : Nat
  s : List UInt8
def P.plain (p : P) : P := if p.t then ⟨true, 0, p.s⟩ else ⟨false, p.n, []⟩
def P.ok (p : P) : Prop := p.plain = p ∧ p.n < 18446744073709551616
def pb (p : P) : List UInt8 := if p.t then 2 :: (esc p.s ++ [0, 0]) else 1 :: big 8 p.n
def key (l : List P) : List UInt8 := l.flatMap pb
theorem key_cons (p : P) (l : List P) : key (p :: l) = pb p ++ key l := by simp [key]
theorem key_append (l m : List P) : key (l ++ m) = key l ++ key m := by simp [key]
theorem pb_plain (p : P) : pb p.plain = pb p := by
  obtain ⟨t, n, s⟩ := p; cases t <;> rfl
def lessP (p q : P) : Bool := if p.t != q.t then q.t else if p.t then less p.s q.s else decide (p.n < q.n)
def lessR : List P → List P → Bool
  | [], [] => false
  | [], _ :: _ => true
  | _ :: _, [] => false
  | p :: l, q :: m => if lessP p q then true else if lessP q p then false else lessR l m
theorem pb_ne (p : P) : pb p ≠ [] := by unfold pb; split <;> simp
theorem lessP_SL {p q : P} (hq : q.n < 18446744073709551616) (h : lessP p q = true) : SL (pb p) (pb q) := by
  obtain ⟨t, n, s⟩ := p
  obtain ⟨u, m, r⟩ := q
  cases t <;> cases u <;> simp [lessP] at h
  · exact .there (big_SL 8 h hq)
  · exact .here (by decide)
  · exact .there (esc_SL h)
theorem lessP_three {p q : P} (hp : p.plain = p) (hq : q.plain = q) : lessP p q = true ∨ lessP q p = true ∨ p = q := by
  obtain ⟨t, n, s⟩ := p
  obtain ⟨u, m, r⟩ := q
  cases t <;> cases u <;> simp [P.plain, lessP] at *
  · subst hp; subst hq; simp; omega
  · obtain rfl := hp; obtain rfl := hq
    rcases three s r with h | ⟨h, h'⟩ | h | h
    · obtain ⟨x, rfl⟩ := h
      cases x with
      | nil => exact Or.inr (Or.inr (by simp))
      | cons a x => exact Or.inl (by have := less_app s [] (a :: x); simpa [less] using this)
    · obtain ⟨x, rfl⟩ := h
      cases x with
      | nil => exact absurd (by simp) h'
      | cons a x => exact Or.inr (Or.inl (by have := less_app r [] (a :: x); simpa [less] using this))
    · exact Or.inl h.lt
    · exact Or.inr (Or.inl h.lt)
theorem lessP_not {p q : P} (hq : q.n < 18446744073709551616) (hp : p.n < 18446744073709551616) (h : lessP p q = true) : lessP q p = false := by
  cases h2 : lessP q p
  · rfl
  · have h1 := (lessP_SL hq h).lt
    rw [(lessP_SL hp h2).nlt] at h1
    cases h1
theorem lessP_self (p : P) : lessP p p = false := by
  obtain ⟨t, n, s⟩ := p
  cases t <;> simp [lessP, less_self]
theorem keeps : ∀ (l m : List P), (∀ p ∈ l, p.ok) → (∀ p ∈ m, p.ok) →
    lessR l m = less (key l) (key m) ∧ (key l = key m ↔ l = m) ∧ (key l <+: key m ↔ l <+: m)
  | [], [], _, _ => by simp [lessR, key, less]
  | [], q :: m, _, _ => by
    have : key (q :: m) ≠ [] := by rw [key_cons]; simp [pb_ne]
    refine ⟨?_, ?_, ?_⟩
    · cases h : key (q :: m) with
      | nil => exact absurd h this
      | cons a x => rfl
    · constructor
      · intro h; exact absurd h.symm this
      · intro h; cases h
    · exact ⟨fun _ => List.nil_prefix, fun _ => List.nil_prefix⟩
  | p :: l, [], _, _ => by
    have : key (p :: l) ≠ [] := by rw [key_cons]; simp [pb_ne]
    refine ⟨?_, ?_, ?_⟩
    · exact (less_nil _).symm
    · constructor
      · intro h; exact absurd h this
      · intro h; cases h
    · constructor
      · intro h; exact absurd (List.prefix_nil.1 h) this
      · intro h; cases List.prefix_nil.1 h
  | p :: l, q :: m, hl, hm => by
    have hp := hl p (by simp)
    have hq := hm q (by simp)
    have ih := keeps l m (fun x hx => hl x (by simp [hx])) (fun x hx => hm x (by simp [hx]))
    rw [key_cons, key_cons]
    rcases lessP_three hp.1 hq.1 with h | h | rfl
    · have hs := (lessP_SL hq.2 h).app (key l) (key m)
      refine ⟨?_, ?_, ?_⟩
      · rw [hs.lt]; simp [lessR, h]
      · constructor
        · intro e; exact absurd e hs.ne
        · intro e; cases e; rw [lessP_self] at h
      · constructor
        · intro e; exact absurd e hs.not_prefix
        · intro e; rw [List.cons_prefix_cons] at e; rw [e.1, lessP_self] at h; cases h
    · have hs := (lessP_SL hp.2 h).app (key m) (key l)
      have hn := lessP_not hp.2 hq.2 h
      refine ⟨?_, ?_, ?_⟩
      · rw [hs.nlt]; simp [lessR, h, hn]
      · constructor
        · intro e; exact absurd e.symm hs.ne
        · intro e; cases e; rw [lessP_self] at h
      · constructor
        · intro e; exact absurd e hs.not_prefix'
        · intro e; rw [List.cons_prefix_cons] at e; rw [e.1, lessP_self] at h; cases h
    · refine ⟨?_, ?_, ?_⟩
      · rw [less_app, ← ih.1]; simp [lessR, lessP_self]
      · rw [List.append_cancel_left_eq, ih.2.1]; simp
      · rw [List.prefix_append_right_inj, ih.2.2, List.cons_prefix_cons]; simp
end Ord
end Go.Proofs.YtfoijhofpjaldaaDoor
