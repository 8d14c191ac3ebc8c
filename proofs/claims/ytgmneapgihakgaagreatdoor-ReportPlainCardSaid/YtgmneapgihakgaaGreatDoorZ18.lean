/- Texts of one seat, merged. -/
import Derived.Test.YtgmneapgihakgaaGreatDoorZ17
import Derived.Test.YtgmneapgihakgaaGreatDoorZ02
import Derived.Test.YtgmneapgihakgaaGreatDoorZ01
import Derived.Lib.Replace
import Derived.Lib.SplitLaws
import Derived.Lib.IndexBytes
import Derived.Test.YtgmneapgihakgaaGreatDoorZ15
import Derived.Test.YtgmneapgihakgaaGreatDoorZ03
import Derived.Deep.LoopGhost
import Derived.Deep.QuietTactic
import Derived.Deep.DeepMust
import Derived.Lib.Strings
import Derived.Test.YtgmneapgihakgaaGreatDoorZ08
set_option maxRecDepth 100000
set_option maxHeartbeats 4000000
set_option linter.unusedVariables false
/- ask.Thing of a message. -/
namespace Go.Proofs.YtgmneapgihakgaaGreatDoor
open Go.RowKit Go.Sort Go.Maps
theorem rrTgM {w : World} {g : Nat} {x0 x1 x2 x3 x4 : Value} {b : Bool} {e : Int} {tmps : Array Value} (ht : tmps[6]? = some (.pointer (some ⟨g, 0, none⟩))) (h7 : tmps[7]? = some (.bool b)) (h8 : tmps[8]? = some (.int .i64 e)) (hx : BoxL w g 62 #[x0, x1, x2, x3, x4]) :
    (results Tryz.f198 tmps).run Tryz.prog w = .ok (.tuple #[.agg #[x0, x1, x2, x3, x4], .bool b, .int .i64 e]) w := by
  have h0 := hx.cell (i := 0) rfl
  have h1 := hx.cell (i := 1) rfl
  have h2 := hx.cell (i := 2) rfl
  have h3 := hx.cell (i := 3) rfl
  have h4 := hx.cell (i := 4) rfl
  simp [results, Tryz.results198, go_sem, ht, h7, h8, h0, h1, h2, h3, h4]
theorem thingM_any (sv : Value) (k V : Txt) (th : Bool) (ge : Int) (cd : Value) (q : Ms) (re : Int) (w : World)
    (HG : ∀ W, Below w.heap.size w W → Calls Tryz.prog 80 #[sv, .string (str k)] W fun e W' => e = .returned (got V th ge) ∧ Below W.heap.size W W')
    (HR : ∀ W, Below w.heap.size w W → Calls Tryz.prog 200 #[cd, .string (str V)] W fun e W' => e = .returned (.tuple #[aggM q, .int .i64 re]) ∧ Below W.heap.size W W') (hge : ge = 0 ∨ th = false) :
    Calls Tryz.prog 198 #[sv, .string (str k), .func (.func 200) #[cd] #[]] w fun e w' => e = .returned (tgOut (.agg #[.string ⟨#[]⟩, .int .u64 0, .int .u32 0, .int .u64 0, .string ⟨#[]⟩]) (aggM q) th ge re) ∧ Below w.heap.size w w' := by
  have HT := Lib.hid (two0 w #[.string ⟨#[]⟩, .int .u64 0, .int .u32 0, .int .u64 0, .string ⟨#[]⟩] #[.string ⟨#[]⟩, .int .u64 0, .int .u32 0, .int .u64 0, .string ⟨#[]⟩] 62 62)
  have HGG := Lib.hid (HG _ HT.out.2.2)
  have HRR := Lib.hid HR
  clear HG HR
  unfold aggM at HRR ⊢
  cases th with
  | false =>
    have e1 : got V false ge = .tuple #[.string ⟨#[]⟩, .bool false, .int .i64 ge] := by unfold got; rw [if_neg (by simp)]; rfl
    rw [e1] at HGG
    have e2 : ∀ q, tgOut (.agg #[.string ⟨#[]⟩, .int .u64 0, .int .u32 0, .int .u64 0, .string ⟨#[]⟩]) q false ge re = .tuple #[.agg #[.string ⟨#[]⟩, .int .u64 0, .int .u32 0, .int .u64 0, .string ⟨#[]⟩], .bool false, .int .i64 ge] := fun q => by unfold tgOut; rw [if_pos (.inr rfl)]
    rw [e2]
    clear e1 e2
    by_cases h0 : ge = 0
    · subst h0
      go_enter Tryz.func198, Tryz.ntmps198
      go_wp2_with (go_at_call 80; refine HGG.out.mono ?_; rintro e w1 ⟨rfl, hb1⟩; have x1 := HT.out.1.below hb1 HT.out.1.lt; have y1 := HT.out.2.1.below hb1 HT.out.2.1.lt; have f1 := x1.frozen; have q0 := x1.cell (i := 0) rfl; have q1 := x1.cell (i := 1) rfl; have q2 := x1.cell (i := 2) rfl; have q3 := x1.cell (i := 3) rfl; have q4 := x1.cell (i := 4) rfl; have z0 := y1.cell (i := 0) rfl; have z1 := y1.cell (i := 1) rfl; have z2 := y1.cell (i := 2) rfl; have z3 := y1.cell (i := 3) rfl; have z4 := y1.cell (i := 4) rfl)
      have xs := (((((x1.set 0 (.string ⟨#[]⟩)).set 1 (.int .u64 0)).set 2 (.int .u32 0)).set 3 (.int .u64 0)).set 4 (.string ⟨#[]⟩))
      exact bodyPost_ret_by (rrTgM rfl rfl rfl xs) rfl ⟨rfl, below_sets (below_step HT.out.2.2 hb1) (Nat.le_refl _)⟩
    · have hb : (ge != 0) = true := by simpa using h0
      clear h0
      go_enter Tryz.func198, Tryz.ntmps198
      go_wp2_with (go_at_call 80; refine HGG.out.mono ?_; rintro e w1 ⟨rfl, hb1⟩; have x1 := HT.out.1.below hb1 HT.out.1.lt; have y1 := HT.out.2.1.below hb1 HT.out.2.1.lt; have f1 := x1.frozen; have q0 := x1.cell (i := 0) rfl; have q1 := x1.cell (i := 1) rfl; have q2 := x1.cell (i := 2) rfl; have q3 := x1.cell (i := 3) rfl; have q4 := x1.cell (i := 4) rfl; have z0 := y1.cell (i := 0) rfl; have z1 := y1.cell (i := 1) rfl; have z2 := y1.cell (i := 2) rfl; have z3 := y1.cell (i := 3) rfl; have z4 := y1.cell (i := 4) rfl)
      have xs := (((((x1.set 0 (.string ⟨#[]⟩)).set 1 (.int .u64 0)).set 2 (.int .u32 0)).set 3 (.int .u64 0)).set 4 (.string ⟨#[]⟩))
      exact bodyPost_ret_by (rrTgM rfl rfl rfl xs) rfl ⟨rfl, below_sets (below_step HT.out.2.2 hb1) (Nat.le_refl _)⟩
  | true =>
    obtain rfl : ge = 0 := hge.elim id (fun h => by cases h)
    have e1 : got V true 0 = .tuple #[.string (str V), .bool true, .int .i64 0] := by unfold got; rw [if_pos (by simp)]
    rw [e1] at HGG
    clear e1
    by_cases h0 : re = 0
    · subst h0
      have e2 : ∀ q, tgOut (.agg #[.string ⟨#[]⟩, .int .u64 0, .int .u32 0, .int .u64 0, .string ⟨#[]⟩]) q true 0 0 = .tuple #[q, .bool true, .int .i64 0] := fun q => by unfold tgOut; rw [if_neg (by simp), if_neg (by simp)]
      rw [e2]
      clear e2
      go_enter Tryz.func198, Tryz.ntmps198
      go_wp2_with (first
        | (go_at_call 80; refine HGG.out.mono ?_; rintro e w1 ⟨rfl, hb1⟩)
        | (go_at_call 200; refine (HRR.out _ (below_step HT.out.2.2 hb1)).mono ?_; rintro e w2 ⟨rfl, hb2⟩; have x0 := HT.out.1.below hb1 HT.out.1.lt; have x00 := x0.below hb2 x0.lt; have x1 := x00.alloc (.cells #[.string q.qu, .int .u64 q.id, .int .u32 q.tries, .int .u64 q.expiry, .string q.body] 62); have f1 := x1.frozen; have q0 := x1.cell (i := 0) rfl; have q1 := x1.cell (i := 1) rfl; have q2 := x1.cell (i := 2) rfl; have q3 := x1.cell (i := 3) rfl; have q4 := x1.cell (i := 4) rfl))
      have xs := (((((x1.set 0 (.string q.qu)).set 1 (.int .u64 q.id)).set 2 (.int .u32 q.tries)).set 3 (.int .u64 q.expiry)).set 4 (.string q.body))
      exact bodyPost_ret_by (rrTgM rfl rfl rfl xs) rfl ⟨rfl, below_sets ((below_step (below_step HT.out.2.2 hb1) hb2).trans (((Below.refl _ _).alloc (Nat.le_refl _) _).mono (Nat.le_trans (below_step HT.out.2.2 hb1).size hb2.size))) (Nat.le_refl _)⟩
    · have e2 : ∀ q, tgOut (.agg #[.string ⟨#[]⟩, .int .u64 0, .int .u32 0, .int .u64 0, .string ⟨#[]⟩]) q true 0 re = .tuple #[.agg #[.string ⟨#[]⟩, .int .u64 0, .int .u32 0, .int .u64 0, .string ⟨#[]⟩], .bool false, .int .i64 re] := fun q => by unfold tgOut; rw [if_neg (by simp), if_pos h0]
      rw [e2]
      have hb : (re != 0) = true := by simpa using h0
      clear h0 e2
      go_enter Tryz.func198, Tryz.ntmps198
      go_wp2_with (first
        | (go_at_call 80; refine HGG.out.mono ?_; rintro e w1 ⟨rfl, hb1⟩)
        | (go_at_call 200; refine (HRR.out _ (below_step HT.out.2.2 hb1)).mono ?_; rintro e w2 ⟨rfl, hb2⟩; have x0 := HT.out.1.below hb1 HT.out.1.lt; have x00 := x0.below hb2 x0.lt; have x1 := x00.alloc (.cells #[.string q.qu, .int .u64 q.id, .int .u32 q.tries, .int .u64 q.expiry, .string q.body] 62); have f1 := x1.frozen; have q0 := x1.cell (i := 0) rfl; have q1 := x1.cell (i := 1) rfl; have q2 := x1.cell (i := 2) rfl; have q3 := x1.cell (i := 3) rfl; have q4 := x1.cell (i := 4) rfl; have y0 := HT.out.2.1.below hb1 HT.out.2.1.lt; have y00 := y0.below hb2 y0.lt; have y1 := y00.alloc (.cells #[.string q.qu, .int .u64 q.id, .int .u32 q.tries, .int .u64 q.expiry, .string q.body] 62); have z0 := y1.cell (i := 0) rfl; have z1 := y1.cell (i := 1) rfl; have z2 := y1.cell (i := 2) rfl; have z3 := y1.cell (i := 3) rfl; have z4 := y1.cell (i := 4) rfl))
      have xs := (((((x1.set 0 (.string ⟨#[]⟩)).set 1 (.int .u64 0)).set 2 (.int .u32 0)).set 3 (.int .u64 0)).set 4 (.string ⟨#[]⟩))
      exact bodyPost_ret_by (rrTgM rfl rfl rfl xs) rfl ⟨rfl, below_sets ((below_step (below_step HT.out.2.2 hb1) hb2).trans (((Below.refl _ _).alloc (Nat.le_refl _) _).mono (Nat.le_trans (below_step HT.out.2.2 hb1).size hb2.size))) (Nat.le_refl _)⟩
end Go.Proofs.YtgmneapgihakgaaGreatDoor
/- Plain arithmetic of keys: rows of parts as bytes, and their order; nothing of the program. -/
namespace Go.Proofs.YtgmneapgihakgaaGreatDoor
namespace Ord
open Oc
def less : List UInt8 → List UInt8 → Bool
  | [], [] => false
  | [], _ :: _ => true
  | _ :: _, [] => false
  | a :: x, b :: y => a < b || (a == b && less x y)
inductive SL : List UInt8 → List UInt8 → Prop
  | here {a b : UInt8} {u v : List UInt8} (h : a < b) : SL (a :: u) (b :: v)
  | there {a : UInt8} {u v : List UInt8} (h : SL u v) : SL (a :: u) (a :: v)
theorem SL.app {u v : List UInt8} (h : SL u v) (x y : List UInt8) : SL (u ++ x) (v ++ y) := by
  induction h with
  | here h => exact .here h
  | there _ ih => exact .there ih
theorem SL.left {u v : List UInt8} (h : SL u v) : ∀ c : List UInt8, SL (c ++ u) (c ++ v)
  | [] => h
  | _ :: c => .there (SL.left h c)
theorem SL.lt {u v : List UInt8} (h : SL u v) : less u v = true := by
  induction h with
  | here h => simp [Ord.less, h]
  | there _ ih => simp [Ord.less, ih]
theorem SL.nlt {u v : List UInt8} (h : SL u v) : less v u = false := by
  induction h with
  | @here a b u v h =>
    have h1 : ¬ b < a := fun h2 => by rw [UInt8.lt_iff_toNat_lt] at h h2; omega
    have h2 : ¬ b = a := fun h2 => by rw [UInt8.lt_iff_toNat_lt, h2] at h; omega
    simp [Ord.less, h1, h2]
  | there _ ih =>
    have h1 : ∀ a : UInt8, ¬ a < a := fun a h => by rw [UInt8.lt_iff_toNat_lt] at h; omega
    simp [Ord.less, ih, h1]
theorem SL.ne {u v : List UInt8} (h : SL u v) : u ≠ v := by
  induction h with
  | here h => intro e; cases e; rw [UInt8.lt_iff_toNat_lt] at h; omega
  | there _ ih => intro e; cases e; exact ih rfl
theorem SL.not_prefix {u v : List UInt8} (h : SL u v) : ¬ u <+: v := by
  rintro ⟨x, e⟩
  have := h.app x []
  rw [e, List.append_nil] at this
  exact this.ne rfl
theorem SL.not_prefix' {u v : List UInt8} (h : SL u v) : ¬ v <+: u := by
  rintro ⟨x, e⟩
  have := h.app [] x
  rw [e, List.append_nil] at this
  exact this.ne rfl
theorem less_app (c : List UInt8) (u v : List UInt8) : less (c ++ u) (c ++ v) = less u v := by
  induction c with
  | nil => rfl
  | cons a c ih =>
    have h1 : ¬ a < a := fun h => by rw [UInt8.lt_iff_toNat_lt] at h; omega
    simp [less, h1, ih]
theorem less_self (u : List UInt8) : less u u = false := by
  have := less_app u [] []
  simpa [less] using this
theorem less_nil (u : List UInt8) : less u [] = false := by cases u <;> rfl
theorem ne_cases {a b : UInt8} (h : a ≠ b) : a < b ∨ b < a := by
  rw [UInt8.lt_iff_toNat_lt, UInt8.lt_iff_toNat_lt]
  have : a.toNat ≠ b.toNat := fun e => h (UInt8.toNat_inj.1 e)
  omega
/-- Three ways that two texts stand. -/
theorem three : ∀ u v : List UInt8, u <+: v ∨ (v <+: u ∧ u ≠ v) ∨ SL u v ∨ SL v u
  | [], v => Or.inl (List.nil_prefix)
  | a :: u, [] => Or.inr (Or.inl ⟨List.nil_prefix, by simp⟩)
  | a :: u, b :: v => by
    by_cases h : a = b
    · subst h
      rcases three u v with h | ⟨h, h'⟩ | h | h
      · exact Or.inl (List.cons_prefix_cons.2 ⟨rfl, h⟩)
      · exact Or.inr (Or.inl ⟨List.cons_prefix_cons.2 ⟨rfl, h⟩, fun e => h' (by cases e; rfl)⟩)
      · exact Or.inr (Or.inr (Or.inl (.there h)))
      · exact Or.inr (Or.inr (Or.inr (.there h)))
    · rcases ne_cases h with h | h
      · exact Or.inr (Or.inr (Or.inl (.here h)))
      · exact Or.inr (Or.inr (Or.inr (.here h)))
def esc : List UInt8 → List UInt8
  | [] => []
  | b :: l => if b = 0 then 0 :: 255 :: esc l else b :: esc l
theorem esc_append (u v : List UInt8) : esc (u ++ v) = esc u ++ esc v := by
  induction u with
  | nil => rfl
  | cons b u ih => simp only [List.cons_append, esc]; split <;> simp [ih]
theorem esc_length_le : ∀ l : List UInt8, l.length ≤ (esc l).length
  | [] => Nat.le_refl _
  | b :: l => by have := esc_length_le l; simp only [esc]; split <;> simp <;> omega
theorem esc_length_ge : ∀ l : List UInt8, (esc l).length ≤ 2 * l.length
  | [] => Nat.le_refl _
  | b :: l => by have := esc_length_ge l; simp only [esc]; split <;> simp <;> omega
theorem esc_SL : ∀ {s t : List UInt8}, less s t = true → SL (esc s ++ [0, 0]) (esc t ++ [0, 0])
  | [], [], h => by cases h
  | [], b :: t, _ => by
    simp only [esc]
    split
    · exact .there (.here (by decide))
    · rename_i hb
      refine .here ?_
      rcases ne_cases hb with h | h
      · exact absurd h (by rw [UInt8.lt_iff_toNat_lt]; exact Nat.not_lt_zero _)
      · exact h
  | _ :: _, [], h => by cases h
  | a :: s, b :: t, h => by
    by_cases he : a = b
    · subst he
      have h1 : ¬ a < a := fun h => by rw [UInt8.lt_iff_toNat_lt] at h; omega
      have ih : SL (esc s ++ [0, 0]) (esc t ++ [0, 0]) := esc_SL (by simpa [less, h1] using h)
      simp only [esc]
      split
      · exact .there (.there ih)
      · exact .there ih
    · have hlt : a < b := by simpa [less, he] using h
      have hb : b ≠ 0 := fun e => by rw [UInt8.lt_iff_toNat_lt, e] at hlt; exact Nat.not_lt_zero _ hlt
      simp only [esc]
      rw [if_neg hb]
      split
      · rename_i ha; subst ha; exact .here hlt
      · exact .here hlt
theorem big_SL : ∀ k {n m : Nat}, n < m → m < 256 ^ k → SL (big k n) (big k m)
  | 0, n, m, h, hm => by simp at hm; omega
  | k + 1, n, m, h, hm => by
    rw [Nat.pow_succ] at hm
    unfold big
    by_cases hq : n / 256 < m / 256
    · exact (big_SL k hq (by omega)).app _ _
    · have he : n / 256 = m / 256 := by omega
      rw [he]
      refine SL.left (.here ?_) _
      rw [UInt8.lt_iff_toNat_lt, UInt8.toNat_ofNat', UInt8.toNat_ofNat']
      omega
/-- A part with what counts alone. -/
structure P where
  t : Bool
  n : Nat
  s : List UInt8
def P.plain (p : P) : P := if p.t then ⟨true, 0, p.s⟩ else ⟨false, p.n, []⟩
def P.ok (p : P) : Prop := p.plain = p ∧ p.n < 18446744073709551616
def pb (p : P) : List UInt8 := if p.t then 2 :: (esc p.s ++ [0, 0]) else 1 :: big 8 p.n
def key (l : List P) : List UInt8 := l.flatMap pb
theorem key_cons (p : P) (l : List P) : key (p :: l) = pb p ++ key l := by simp [key]
theorem key_append (l m : List P) : key (l ++ m) = key l ++ key m := by simp [key]
theorem pb_plain (p : P) : pb p.plain = pb p := by
  obtain ⟨t, n, s⟩ := p; cases t <;> rfl
def lessP (p q : P) : Bool := if p.t != q.t then q.t else if p.t then less p.s q.s else decide (p.n < q.n)
def lessR : List P → List P → Bool
  | [], [] => false
  | [], _ :: _ => true
  | _ :: _, [] => false
  | p :: l, q :: m => if lessP p q then true else if lessP q p then false else lessR l m
theorem pb_ne (p : P) : pb p ≠ [] := by unfold pb; split <;> simp
theorem lessP_SL {p q : P} (hq : q.n < 18446744073709551616) (h : lessP p q = true) : SL (pb p) (pb q) := by
  obtain ⟨t, n, s⟩ := p
  obtain ⟨u, m, r⟩ := q
  cases t <;> cases u <;> simp [lessP] at h
  · exact .there (big_SL 8 h hq)
  · exact .here (by decide)
  · exact .there (esc_SL h)
theorem lessP_three {p q : P} (hp : p.plain = p) (hq : q.plain = q) : lessP p q = true ∨ lessP q p = true ∨ p = q := by
  obtain ⟨t, n, s⟩ := p
  obtain ⟨u, m, r⟩ := q
  cases t <;> cases u <;> simp [P.plain, lessP] at *
  · subst hp; subst hq; simp; omega
  · obtain rfl := hp; obtain rfl := hq
    rcases three s r with h | ⟨h, h'⟩ | h | h
    · obtain ⟨x, rfl⟩ := h
      cases x with
      | nil => exact Or.inr (Or.inr (by simp))
      | cons a x => exact Or.inl (by have := less_app s [] (a :: x); simpa [less] using this)
    · obtain ⟨x, rfl⟩ := h
      cases x with
      | nil => exact absurd (by simp) h'
      | cons a x => exact Or.inr (Or.inl (by have := less_app r [] (a :: x); simpa [less] using this))
    · exact Or.inl h.lt
    · exact Or.inr (Or.inl h.lt)
theorem lessP_not {p q : P} (hq : q.n < 18446744073709551616) (hp : p.n < 18446744073709551616) (h : lessP p q = true) : lessP q p = false := by
  cases h2 : lessP q p
  · rfl
  · have h1 := (lessP_SL hq h).lt
    rw [(lessP_SL hp h2).nlt] at h1
    cases h1
theorem lessP_self (p : P) : lessP p p = false := by
  obtain ⟨t, n, s⟩ := p
  cases t <;> simp [lessP, less_self]
theorem keeps : ∀ (l m : List P), (∀ p ∈ l, p.ok) → (∀ p ∈ m, p.ok) →
    lessR l m = less (key l) (key m) ∧ (key l = key m ↔ l = m) ∧ (key l <+: key m ↔ l <+: m)
  | [], [], _, _ => by simp [lessR, key, less]
  | [], q :: m, _, _ => by
    have : key (q :: m) ≠ [] := by rw [key_cons]; simp [pb_ne]
    refine ⟨?_, ?_, ?_⟩
    · cases h : key (q :: m) with
      | nil => exact absurd h this
      | cons a x => rfl
    · constructor
      · intro h; exact absurd h.symm this
      · intro h; cases h
    · exact ⟨fun _ => List.nil_prefix, fun _ => List.nil_prefix⟩
  | p :: l, [], _, _ => by
    have : key (p :: l) ≠ [] := by rw [key_cons]; simp [pb_ne]
    refine ⟨?_, ?_, ?_⟩
    · exact (less_nil _).symm
    · constructor
      · intro h; exact absurd h this
      · intro h; cases h
    · constructor
      · intro h; exact absurd (List.prefix_nil.1 h) this
      · intro h; cases List.prefix_nil.1 h
  | p :: l, q :: m, hl, hm => by
    have hp := hl p (by simp)
    have hq := hm q (by simp)
    have ih := keeps l m (fun x hx => hl x (by simp [hx])) (fun x hx => hm x (by simp [hx]))
    rw [key_cons, key_cons]
    rcases lessP_three hp.1 hq.1 with h | h | rfl
    · have hs := (lessP_SL hq.2 h).app (key l) (key m)
      refine ⟨?_, ?_, ?_⟩
      · rw [hs.lt]; simp [lessR, h]
      · constructor
        · intro e; exact absurd e hs.ne
        · intro e; cases e; rw [lessP_self] at h
      · constructor
        · intro e; exact absurd e hs.not_prefix
        · intro e; rw [List.cons_prefix_cons] at e; rw [e.1, lessP_self] at h; cases h
    · have hs := (lessP_SL hp.2 h).app (key m) (key l)
      have hn := lessP_not hp.2 hq.2 h
      refine ⟨?_, ?_, ?_⟩
      · rw [hs.nlt]; simp [lessR, h, hn]
      · constructor
        · intro e; exact absurd e.symm hs.ne
        · intro e; cases e; rw [lessP_self] at h
      · constructor
        · intro e; exact absurd e hs.not_prefix'
        · intro e; rw [List.cons_prefix_cons] at e; rw [e.1, lessP_self] at h; cases h
    · refine ⟨?_, ?_, ?_⟩
      · rw [less_app, ← ih.1]; simp [lessR, lessP_self]
      · rw [List.append_cancel_left_eq, ih.2.1]; simp
      · rw [List.prefix_append_right_inj, ih.2.2, List.cons_prefix_cons]; simp
end Ord
end Go.Proofs.YtgmneapgihakgaaGreatDoor
/- What strings.ReplaceAll makes of a text for a key. -/
namespace Go.Proofs.YtgmneapgihakgaaGreatDoor
theorem index_cons (b : UInt8) (hb : b ≠ 0) (l : List UInt8) (i : Nat) (h : Lib.index l [0] = i) : Lib.index (b :: l) [0] = ((i + 1 : Nat) : Int) := by
  rw [Lib.index_one] at h ⊢
  unfold Lib.indexByte
  rw [h]
  simp [hb]
theorem replaceK_esc : ∀ l : List UInt8, Lib.replaceK [0] [0, 255] (Lib.count l [0]) l = Ord.esc l
  | [] => by rw [show Lib.count [] [0] = 0 by rw [Lib.count_one]; rfl]; rfl
  | b :: l => by
    have ih := replaceK_esc l
    by_cases hb : b = 0
    · subst hb
      rw [Lib.count_cons_eq, Nat.add_comm 1, Lib.replaceK_hit _ _ _ _ 0 (by rw [Lib.index_one]; rfl)]
      simp [Ord.esc, ih]
    · rw [Lib.count_cons_ne b 0 l hb]
      simp only [Ord.esc, if_neg hb]
      cases hk : Lib.count l [0] with
      | zero =>
        rw [hk] at ih
        rw [← ih]; rfl
      | succ k =>
        obtain ⟨i, hi⟩ := Lib.index_of_count (s := l) (old := [0]) (by omega)
        rw [hk, Lib.replaceK_hit _ _ _ _ i hi] at ih
        rw [Lib.replaceK_hit _ _ _ _ (i + 1) (index_cons b hb l i hi), ← ih]
        simp
theorem replaceAll_esc (l : List UInt8) : Lib.replaceAll l [0] [0, 255] = Ord.esc l := by
  unfold Lib.replaceAll Lib.replace Lib.replaceNum
  rw [if_neg (by decide), if_pos (by left; decide)]
  exact replaceK_esc l
theorem countB_esc (s : ByteArray) : Lib.countB s ⟨#[0]⟩ ≤ s.size := Lib.countB_le _ (by decide) s.size s (Nat.le_refl _)
end Go.Proofs.YtgmneapgihakgaaGreatDoor
/- What stands behind a beginning: the contracts of After, Next and HasPrefix. -/
namespace Go.Proofs.YtgmneapgihakgaaGreatDoor
open Go.RowKit
theorem prefix_take (s p : ByteArray) : ((s.extract 0 p.size).data.toList == p.data.toList) = p.data.toList.isPrefixOf s.data.toList := by
  have e : (s.extract 0 p.size).data.toList = s.data.toList.take p.data.toList.length := by simp
  rw [e, Bool.eq_iff_iff, beq_iff_eq, List.isPrefixOf_iff_prefix, List.prefix_iff_eq_take]
  exact eq_comm
theorem ret_two {a b : ByteArray} {c : Value} (h : a = b) : Ending.returned (.tuple #[.string a, c]) = .returned (.tuple #[.string b, c]) := by rw [h]
def pre (p s : List UInt8) : Bool := p.isPrefixOf s
theorem lite_any (s p : ByteArray) (w : World) :
    Calls Tryz.prog 211 #[.string s, .string p] w fun e w' => e = .returned (.bool (pre p.data.toList s.data.toList)) ∧ w = w' := by
  by_cases h : p.size ≤ s.size
  · have h1 : (p.size : Int) ≤ (s.size : Int) := by omega
    have h2 : (0 : Int) ≤ (p.size : Int) := by omega
    go_enter Tryz.func211, Tryz.ntmps211
    go_wp2
    go_ret
    refine ⟨ret_bool ?_, rfl⟩
    rw [Lib.toList_data, Lib.toList_data]
    exact prefix_take s p
  · have h1 : ¬ (p.size : Int) ≤ (s.size : Int) := by omega
    go_enter Tryz.func211, Tryz.ntmps211
    go_wp2
    go_ret
    refine ⟨ret_bool ?_, rfl⟩
    symm
    rw [← Bool.not_eq_true]
    intro hp
    have := (List.isPrefixOf_iff_prefix.1 hp).length_le
    exact h (by simpa using this)
/-- The least text behind all with a beginning, if there is one. -/
def aft : List UInt8 → List UInt8 × Bool
  | [] => ([], false)
  | b :: l => if (aft l).2 then (b :: (aft l).1, true) else if b = 255 then ([], false) else ([b + 1], true)
theorem aft_hit {b : UInt8} {l : List UInt8} (h : (aft l).2 = false) (hb : b ≠ 255) : aft (b :: l) = ([b + 1], true) := by simp [aft, h, hb]
theorem aft_miss {b : UInt8} {l : List UInt8} (h : (aft l).2 = false) (hb : b = 255) : (aft (b :: l)).2 = false := by simp [aft, h, hb]
theorem aft_app {l x : List UInt8} (h : aft l = (x, true)) : ∀ m : List UInt8, aft (m ++ l) = (m ++ x, true)
  | [] => h
  | b :: m => by simp [aft, aft_app h m]
theorem aft_none : ∀ l : List UInt8, (aft l).2 = false → aft l = ([], false)
  | [], _ => rfl
  | b :: l, h => by
    by_cases h1 : (aft l).2 = true
    · simp [aft, h1] at h
    · by_cases hb : b = 255
      · simp [aft, h1, hb]
      · simp [aft, h1, hb] at h
theorem drop_at (s : ByteArray) (j : Nat) (h : j < s.size) : s.data.toList.drop j = s[j] :: s.data.toList.drop (j + 1) := by
  rw [List.drop_eq_getElem_cons (by simpa using h)]; rfl
theorem take_str (s : ByteArray) (j : Nat) : s.extract 0 j = str (s.data.toList.take j) := by
  rw [← str_eq (s.extract 0 j), show (s.extract 0 j).data.toList = s.data.toList.take j by simp]
theorem after_any (s : ByteArray) (hs : s.size ≤ 1000) (w : World) :
    Calls Tryz.prog 207 #[.string s] w fun e w' => e = .returned (.tuple #[.string (str (aft s.data.toList).1), .bool (aft s.data.toList).2]) ∧ Below w.heap.size w w' := by
  go_enter Tryz.func207, Tryz.ntmps207
  go_wp2
  go_loopg [4] (s.size) (fun g i wr => g ≤ s.size ∧ i = .int .i64 ((g : Int) - 1) ∧ Hid ((aft (s.data.toList.drop g)).2 = false) ∧ Hid (w = wr))
  case atStart => exact ⟨Nat.le_refl _, rfl, by rw [List.drop_of_length_le (by simp)]; rfl, rfl⟩
  case round =>
    obtain ⟨hk, rfl, H1, rfl⟩ := hrel
    by_cases h0 : gk = 0
    · subst h0
      go_wp2
      go_ret2
      have h := aft_none _ H1.out
      rw [List.drop_zero] at h
      rw [h]
      exact ⟨rfl, Below.refl _ _⟩
    · obtain ⟨j, rfl⟩ : ∃ j, gk = j + 1 := ⟨gk - 1, by omega⟩
      rw [show ((j + 1 : Nat) : Int) - 1 = (j : Int) by omega]
      have hj : j < s.size := by omega
      have hd := drop_at s j hj
      by_cases hb : s[j] = 255
      · have hb' : (s[j].toNat : Int) = 255 := by rw [hb]; rfl
        have H2 := Lib.hid (aft_miss H1.out hb)
        rw [← hd] at H2
        clear hd hb
        go_wp2
        go_roundg j
        case measure => omega
        case rel => exact ⟨by omega, by go_num, H2, rfl⟩
      · have hb' : ((s[j].toNat : Int) == 255) = false := by
          rw [beq_eq_false_iff_ne]
          intro h
          exact hb (UInt8.toNat_inj.1 (by show s[j].toNat = 255; omega))
        have hlt := s[j].toNat_lt
        have hc : s[j].toNat + 1 < 256 := by
          have := beq_eq_false_iff_ne.1 hb'
          omega
        have H2 := Lib.hid (aft_hit H1.out hb)
        rw [← hd] at H2
        have H3 := Lib.hid (aft_app H2.out (s.data.toList.take j))
        rw [List.take_append_drop] at H3
        clear hd hb H2
        have hj1 : (j : Int) < (s.size : Int) := by omega
        have hj2 : (j : Int) ≤ (s.size : Int) := by omega
        have hz := big_size
        have hzj : (s.extract 0 j).size = j := by rw [ByteArray.size_extract]; omega
        have HS : Hid (s.extract 0 j ++ str (Oc.big 1 (s[j].toNat + 1)) = str (s.data.toList.take j ++ [s[j] + 1])) := by
          rw [← str_append]
          congr 1
          · exact take_str s j
          · congr 1
            show [UInt8.ofNat ((s[j].toNat + 1) % 256)] = [s[j] + 1]
            congr 1
            apply UInt8.toNat_inj.1
            rw [UInt8.toNat_ofNat', UInt8.toNat_add]
            simp
        go_wp2_with fail
        go_region_with (go_at_call 258; refine (one_at _ (s[j].toNat + 1) ?_ hc _).mono ?_; (first | omega | (rw [IntKind.wrap_u8]; omega)); rintro e w1 ⟨rfl, hb1⟩)
        all_goals (go_wp2; go_ret2; rw [H3.out]; exact ⟨ret_two HS.out, hb1.os, hb1.tape, hb1.output, hb1.size, hb1.block⟩)
theorem hasPrefix_any (s p : ByteArray) (w : World) :
    Calls Tryz.prog 114 #[.string s, .string p] w fun e w' => e = .returned (.bool (pre p.data.toList s.data.toList)) ∧ w = w' := by
  go_enter Tryz.func114, Tryz.ntmps114
  go_wp2_with (go_at_call 211; refine (lite_any _ _ _).mono ?_; rintro e w1 ⟨rfl, rfl⟩)
  go_ret
  exact ⟨rfl, rfl⟩
end Go.Proofs.YtgmneapgihakgaaGreatDoor
/- Plain facts on texts: what stands behind a beginning, and next to a key; nothing of the program. -/
namespace Go.Proofs.YtgmneapgihakgaaGreatDoor
open Go.Proofs.YtgmneapgihakgaaGreatDoor.Ord
theorem lt_irr (a : UInt8) : ¬ a < a := fun h => by rw [UInt8.lt_iff_toNat_lt] at h; omega
theorem aft_spec : ∀ p t : List UInt8, (less t p = false ∧ ((aft p).2 = false ∨ less t (aft p).1 = true)) ↔ p <+: t
  | [], t => by simp [aft, less_nil]
  | b :: p, [] => by simp [less]
  | b :: p, c :: t => by
    have ih := aft_spec p t
    rw [List.cons_prefix_cons]
    by_cases hcb : c = b
    · subst hcb
      rw [show less (c :: t) (c :: p) = less t p by simp [less]]
      by_cases h2 : (aft p).2 = true
      · rw [show aft (c :: p) = (c :: (aft p).1, true) by simp [aft, h2]]
        rw [show less (c :: t) (c :: (aft p).1) = less t (aft p).1 by simp [less]]
        simp only [h2, Bool.true_eq_false, false_or] at ih ⊢
        rw [ih]; simp
      · have h2' : (aft p).2 = false := by simpa using h2
        simp only [h2', true_or, and_true] at ih
        by_cases hb : c = 255
        · rw [show aft (c :: p) = ([], false) by simp [aft, h2', hb]]
          simp only [true_or, and_true]
          rw [ih]; simp
        · rw [show aft (c :: p) = ([c + 1], true) by simp [aft, h2', hb]]
          have hlt : c < c + 1 := by
            rw [UInt8.lt_iff_toNat_lt, UInt8.toNat_add]
            have := c.toNat_lt
            have h3 : c.toNat ≠ 255 := fun h => hb (UInt8.toNat_inj.1 h)
            simp; omega
          rw [show less (c :: t) [c + 1] = true by simp [less, hlt]]
          simp only [or_true, and_true]
          rw [ih]; simp
    · rcases ne_cases hcb with h | h
      · rw [show less (c :: t) (b :: p) = true by simp [less, h]]
        constructor
        · rintro ⟨h1, _⟩; cases h1
        · rintro ⟨h1, _⟩; exact absurd h1.symm hcb
      · have hn : ¬ c < b := fun h' => by rw [UInt8.lt_iff_toNat_lt] at h h'; omega
        constructor
        · rintro ⟨_, h1⟩
          exfalso
          by_cases h2 : (aft p).2 = true
          · rw [show aft (b :: p) = (b :: (aft p).1, true) by simp [aft, h2]] at h1
            simp [less, hn, hcb] at h1
          · have h2' : (aft p).2 = false := by simpa using h2
            by_cases hb : b = 255
            · subst hb
              rw [UInt8.lt_iff_toNat_lt] at h
              have := c.toNat_lt
              have h3 : (255 : UInt8).toNat = 255 := rfl
              omega
            · rw [show aft (b :: p) = ([b + 1], true) by simp [aft, h2', hb]] at h1
              have hle : ¬ c < b + 1 := by
                rw [UInt8.lt_iff_toNat_lt, UInt8.toNat_add]
                rw [UInt8.lt_iff_toNat_lt] at h
                have := b.toNat_lt
                have h3 : b.toNat ≠ 255 := fun h => hb (UInt8.toNat_inj.1 h)
                simp; omega
              simp [less, hle, less_nil] at h1
        · rintro ⟨h1, _⟩; exact absurd h1.symm hcb
theorem next_less (s : List UInt8) : less s (s ++ [0]) = true := by
  have := less_app s [] [0]
  rw [List.append_nil] at this
  rw [this]; rfl
theorem next_none : ∀ s t : List UInt8, less t (s ++ [0]) = true → less s t = false
  | [], [], _ => rfl
  | [], c :: t, h => by
    simp only [List.nil_append, less, less_nil, Bool.and_false, Bool.or_false, decide_eq_true_eq] at h
    rw [UInt8.lt_iff_toNat_lt] at h
    exact absurd h (Nat.not_lt_zero _)
  | b :: s, [], _ => rfl
  | b :: s, c :: t, h => by
    simp only [List.cons_append, less, Bool.or_eq_true, decide_eq_true_eq, Bool.and_eq_true, beq_iff_eq] at h
    rcases h with h | ⟨rfl, h⟩
    · have h1 : ¬ b < c := fun h' => by rw [UInt8.lt_iff_toNat_lt] at h h'; omega
      have h2 : ¬ b = c := fun h' => by subst h'; exact lt_irr _ h
      simp [less, h1, h2]
    · have := next_none s t h
      simp [less, this]
theorem front_less (p s : List UInt8) : less (p ++ s) p = false := by
  have := less_app p s []
  rw [List.append_nil] at this
  rw [this, less_nil]
theorem op_less : ∀ x y : List UInt8, Op.bytesLess x y = less x y
  | [], [] => rfl
  | [], _ :: _ => rfl
  | _ :: _, [] => rfl
  | a :: x, b :: y => by rw [Op.bytesLess, less, op_less x y]
end Go.Proofs.YtgmneapgihakgaaGreatDoor
/- Rows of parts in memory; the contracts of less, Less, of a part's bytes and of Key. -/
namespace Go.Proofs.YtgmneapgihakgaaGreatDoor
open Go.RowKit
/-- A part as cells. -/
def cellsP (p : Ord.P) : List Value := [.bool p.t, .int .u64 p.n, .string (str p.s)]
def aggP (p : Ord.P) : Value := .agg #[.bool p.t, .int .u64 p.n, .string (str p.s)]
/-- A row of parts that a slice shows. -/
def Sl (w : World) (v : Value) (l : List Ord.P) : Prop :=
  ∃ (a : Option Addr) (b o c : Nat), v = .slice a l.length c ∧ (l = [] ∨ a = some ⟨b, o, none⟩) ∧
    ∀ (j : Nat) p, l[j]? = some p → w.cell? ⟨b, o + j * 3, none⟩ = some (.bool p.t) ∧ w.cell? ⟨b, o + j * 3 + 1, none⟩ = some (.int .u64 p.n) ∧ w.cell? ⟨b, o + j * 3 + 2, none⟩ = some (.string (str p.s))
theorem Sl.below {w w' : World} {v : Value} {l : List Ord.P} (h : Sl w v l) (hb : Below w.heap.size w w') : Sl w' v l := by
  obtain ⟨a, b, o, c, hv, ha, hx⟩ := h
  refine ⟨a, b, o, c, hv, ha, fun j p hj => ?_⟩
  obtain ⟨h0, h1, h2⟩ := hx j p hj
  have hlt := World.block_lt_of_cell? _ _ h0
  exact ⟨(hb.cell (p := ⟨b, o + j * 3, none⟩) hlt).trans h0, (hb.cell (p := ⟨b, o + j * 3 + 1, none⟩) hlt).trans h1, (hb.cell (p := ⟨b, o + j * 3 + 2, none⟩) hlt).trans h2⟩
theorem num_any (n : Nat) (w : World) :
    Calls Tryz.prog 104 #[.int .u64 n] w fun e w' => e = .returned (aggP ⟨false, n, []⟩) ∧ Below w.heap.size w w' := by
  go_enter Tryz.func104, Tryz.ntmps104
  go_wp2
  refine bodyPost_ret_by (v := aggP ⟨false, n, []⟩) ?_ rfl ⟨rfl, (Below.refl _ _).alloc (Nat.le_refl _) _⟩
  simp [results, Tryz.results104, go_sem, aggP, str]
theorem strP_any (s : List UInt8) (w : World) :
    Calls Tryz.prog 103 #[.string (str s)] w fun e w' => e = .returned (aggP ⟨true, 0, s⟩) ∧ Below w.heap.size w w' := by
  go_enter Tryz.func103, Tryz.ntmps103
  go_wp2
  refine bodyPost_ret_by (v := aggP ⟨true, 0, s⟩) ?_ rfl ⟨rfl, (Below.refl _ _).alloc (Nat.le_refl _) _⟩
  simp [results, Tryz.results103, go_sem, aggP]
/-- The bytes of a part. -/
theorem replace_any (s : List UInt8) (m : Int) (w : World) (hs : s.length ≤ 400) (hm : w.cell? ⟨0, 0, none⟩ = some (.int .i64 m)) :
    Calls Tryz.prog 270 #[.string (str s), .string ⟨#[0]⟩, .string ⟨#[0, 255]⟩] w fun e w' => e = .returned (.string (str (Ord.esc s))) ∧ Below w.heap.size w w' := by
  have hc := countB_esc (str s)
  rw [str_size] at hc
  have h := Tryz.strings_ReplaceAll (str s) ⟨#[0]⟩ ⟨#[0, 255]⟩ m w (by rw [str_size]; omega) hm (by decide) (by
    rw [str_size, show (⟨#[0, 255]⟩ : ByteArray).size = 2 from rfl]; omega)
  rw [show (⟨#[0]⟩ : ByteArray).data.toList = [0] from rfl, show (⟨#[0, 255]⟩ : ByteArray).data.toList = [0, 255] from rfl, str_data, replaceAll_esc] at h
  exact h
theorem esc_size (s : List UInt8) (hs : s.length ≤ 400) : (str (Ord.esc s)).size ≤ 800 := by
  have := Ord.esc_length_ge s
  rw [str_size]; omega
set_option maxHeartbeats 1000000 in
theorem bytes_any (p : Ord.P) (hn : p.n < 18446744073709551616) (hs : p.s.length ≤ 400) (m : Int) (w : World) (hm : w.cell? ⟨0, 0, none⟩ = some (.int .i64 m)) :
    Calls Tryz.prog 218 #[aggP p] w fun e w' => e = .returned (.string (str (Ord.pb p))) ∧ Below w.heap.size w w' := by
  obtain ⟨t, n, s⟩ := p
  simp only at hn hs
  have hz := big_size
  have h0 := World.block_lt_of_cell? _ _ hm
  cases t
  · have H : Hid (str (Oc.big 1 1) ++ str (Oc.big 8 n) = str (Ord.pb ⟨false, n, s⟩)) := by rw [str_append]; rfl
    unfold aggP
    go_enter Tryz.func218, Tryz.ntmps218
    go_wp2_with fail
    go_region_with (first
      | (go_at_call 258; refine (one_at 1 1 rfl (by decide) _).mono ?_; rintro e w1 ⟨rfl, hb1⟩; have hk := (hb1.cell (p := ⟨w.heap.size, 1, none⟩) (by simp)).trans (show _ = some (Value.int .u64 n) by simp))
      | (go_at_call 187; refine (eight_at _ n rfl hn _).mono ?_; rintro e w2 ⟨rfl, hb2⟩))
    all_goals
      (go_wp2
       go_ret
       exact ⟨ret_string H.out, below_step (below_off hb1) hb2⟩)
  · have H : Hid (str (Oc.big 1 2) ++ str (Ord.esc s) ++ ⟨#[0, 0]⟩ = str (Ord.pb ⟨true, n, s⟩)) := by
      rw [str_append, show (⟨#[0, 0]⟩ : ByteArray) = str [0, 0] from rfl, str_append]
      show _ = str (2 :: (Ord.esc s ++ [0, 0]))
      rfl
    have hze := esc_size s hs
    unfold aggP
    go_enter Tryz.func218, Tryz.ntmps218
    go_wp2_with fail
    go_region_with (first
      | (go_at_call 258; refine (one_at 2 2 rfl (by decide) _).mono ?_; rintro e w1 ⟨rfl, hb1⟩; have hk := (hb1.cell (p := ⟨w.heap.size, 2, none⟩) (by simp)).trans (show _ = some (Value.string (str s)) by simp); have hm1 := ((below_off hb1).cell (p := ⟨0, 0, none⟩) h0).trans hm)
      | (go_at_call 270; refine (replace_any s m _ hs hm1).mono ?_; rintro e w2 ⟨rfl, hb2⟩))
    all_goals
      (go_wp2
       go_ret
       exact ⟨ret_string H.out, below_step (below_off hb1) hb2⟩)
end Go.Proofs.YtgmneapgihakgaaGreatDoor
/- The contract of Key. -/
namespace Go.Proofs.YtgmneapgihakgaaGreatDoor
open Go.RowKit
/-- What Key answers: the bytes, or that they are too many. -/
def keyOut (l : List Ord.P) : Value := if (Ord.key l).length ≤ 255 then .tuple #[.string (str (Ord.key l)), .int .i64 0] else .tuple #[.string ⟨#[]⟩, .int .i64 5]
theorem keyOut_ok (l : List Ord.P) (h : (Ord.key l).length ≤ 255) : keyOut l = .tuple #[.string (str (Ord.key l)), .int .i64 0] := by unfold keyOut; rw [if_pos h]
theorem keyOut_long (l : List Ord.P) (h : ¬ (Ord.key l).length ≤ 255) : keyOut l = .tuple #[.string ⟨#[]⟩, .int .i64 5] := by unfold keyOut; rw [if_neg h]
theorem key_take_le (l : List Ord.P) (k : Nat) : (Ord.key (l.take k)).length ≤ (Ord.key l).length := by
  have := Ord.key_append (l.take k) (l.drop k)
  rw [List.take_append_drop] at this
  rw [this, List.length_append]; omega
theorem key_snoc (l : List Ord.P) (k : Nat) (p : Ord.P) (h : l[k]? = some p) : Ord.key (l.take (k + 1)) = Ord.key (l.take k) ++ Ord.pb p := by
  obtain ⟨hk, he⟩ := List.getElem?_eq_some_iff.1 h
  rw [List.take_succ_eq_append_getElem hk, Ord.key_append, he, Ord.key_cons]
  simp [Ord.key]
theorem pb_length_text (p : Ord.P) (h : p.t = true) : p.s.length ≤ (Ord.pb p).length := by
  have := Ord.esc_length_le p.s
  unfold Ord.pb
  rw [if_pos h]
  simp; omega
theorem pb_length_le (p : Ord.P) (h : p.s.length ≤ 400) : (Ord.pb p).length ≤ 803 := by
  have := Ord.esc_length_ge p.s
  unfold Ord.pb
  split
  · simp; omega
  · simp [Oc.big_length]
set_option maxHeartbeats 2000000 in
set_option maxRecDepth 100000 in
theorem key_any (v : Value) (l : List Ord.P) (hll : l.length ≤ 1000) (m : Int) (w : World) (hv : Sl w v l) (hl : ∀ p ∈ l, p.n < 18446744073709551616 ∧ p.s.length ≤ 400) (hm : w.cell? ⟨0, 0, none⟩ = some (.int .i64 m)) :
    Calls Tryz.prog 125 #[v] w fun e w' => e = .returned (keyOut l) ∧ Below w.heap.size w w' := by
  have h0 := World.block_lt_of_cell? _ _ hm
  have HV := Lib.hid hv
  have HL := Lib.hid hl
  have HM := Lib.hid hm
  have H0 := Lib.hid h0
  clear hl hm h0
  obtain ⟨a, b, o, c, rfl, ha, hx⟩ := hv
  have HX := Lib.hid hx
  have HA := Lib.hid ha
  clear ha hx
  go_enter Tryz.func125, Tryz.ntmps125
  go_wp2
  go_loopg [4, 9] l.length (fun g s i wr => ∃ k : Nat, k ≤ l.length ∧ g = l.length - k ∧ i = .int .i64 k ∧ s = .string (str (Ord.key (l.take k))) ∧ Hid ((Ord.key (l.take k)).length ≤ 1100) ∧ Hid (Below w.heap.size w wr))
  case atStart => exact ⟨0, Nat.zero_le _, rfl, rfl, rfl, Nat.zero_le _, Below.refl _ _⟩
  case round =>
    obtain ⟨k, hk, rfl, rfl, rfl, HK, HB⟩ := hrel
    have hsz : (str (Ord.key (l.take k))).size = (Ord.key (l.take k)).length := rfl
    have HT := Lib.hid (key_take_le l k)
    by_cases hlt : k < l.length
    · obtain ⟨p, hp⟩ : ∃ p, l[k]? = some p := ⟨_, List.getElem?_eq_getElem hlt⟩
      have HS := Lib.hid (key_snoc l k p hp)
      have HT2 := Lib.hid (key_take_le l (k + 1))
      obtain ⟨hpn, hps⟩ := HL.out p (List.mem_of_getElem? hp)
      obtain ⟨e0, e1, e2⟩ := HX.out k p hp
      have hblt : b < w.heap.size := World.block_lt_of_cell? _ _ e0
      have d0 := (HB.out.cell (p := ⟨b, o + k * 3, none⟩) hblt).trans e0
      have d1 := (HB.out.cell (p := ⟨b, o + k * 3 + 1, none⟩) hblt).trans e1
      have d2 := (HB.out.cell (p := ⟨b, o + k * 3 + 2, none⟩) hblt).trans e2
      obtain rfl : a = some ⟨b, o, none⟩ := by
        rcases HA.out with h | h
        · rw [h] at hlt; cases hlt
        · exact h
      have HPT := Lib.hid (pb_length_text p)
      have HPL := Lib.hid (pb_length_le p hps)
      have HBY := Lib.hid (fun W (hW : Below w.heap.size w W) => bytes_any p hpn hps m W ((hW.cell (p := ⟨0, 0, none⟩) H0.out).trans HM.out))
      clear e0 e1 e2 hp
      revert HS HT2 hsz HK HT
      generalize Ord.key (l.take k) = K
      generalize hK1 : Ord.key (l.take (k + 1)) = K1
      intro HK hsz HT HS HT2
      have HK1 := Lib.hid hK1
      clear hK1
      have hkl := HK.out
      by_cases h255 : (K.length : Int) > 255
      · have hlong : ¬ (Ord.key l).length ≤ 255 := by have := HT.out; omega
        have HO := Lib.hid (keyOut_long l hlong)
        go_wp2
        go_ret2
        rw [HO.out]
        exact ⟨rfl, HB.out.alloc HB.out.size _⟩
      · have hpl : (str (Ord.pb p)).size ≤ 803 := by rw [str_size]; exact HPL.out
        have HJ : Hid (str K ++ str (Ord.pb p) = str K1) := by
          show str K ++ str (Ord.pb p) = str K1
          rw [str_append, ← HS.out]
        have HK1L : Hid (K1.length ≤ 1100) := by
          show K1.length ≤ 1100
          rw [HS.out, List.length_append]
          have := HPL.out
          omega
        obtain ⟨t, n, s⟩ := p
        simp only at d0 d1 d2 hpn hps HPT
        cases t
        · go_wp2_with (go_at_call 218; refine (HBY.out _ (HB.out.alloc HB.out.size _)).mono ?_; rintro e w1 ⟨rfl, hb1⟩)
          go_roundg (l.length - (k + 1))
          case measure => omega
          case rel => exact ⟨k + 1, by omega, rfl, by go_num, by rw [HJ.out, HK1.out], by rw [HK1.out]; exact HK1L, below_step (HB.out.alloc HB.out.size _) hb1⟩
        · have hss : (str s).size = s.length := rfl
          by_cases hs255 : (s.length : Int) > 255
          · have hlong : ¬ (Ord.key l).length ≤ 255 := by
              have h1 := HT2.out
              have h2 := HPT.out rfl
              have h3 := HS.out
              rw [h3, List.length_append] at h1
              omega
            have HO := Lib.hid (keyOut_long l hlong)
            go_wp2
            go_ret2
            rw [HO.out]
            exact ⟨rfl, HB.out.alloc HB.out.size _⟩
          · go_wp2_with (go_at_call 218; refine (HBY.out _ (HB.out.alloc HB.out.size _)).mono ?_; rintro e w1 ⟨rfl, hb1⟩)
            go_roundg (l.length - (k + 1))
            case measure => omega
            case rel => exact ⟨k + 1, by omega, rfl, by go_num, by rw [HJ.out, HK1.out], by rw [HK1.out]; exact HK1L, below_step (HB.out.alloc HB.out.size _) hb1⟩
    · obtain rfl : k = l.length := by omega
      rw [List.take_length] at *
      by_cases h255 : ((Ord.key l).length : Int) > 255
      · have HO := Lib.hid (keyOut_long l (by omega))
        go_wp2
        go_ret2
        rw [HO.out]
        exact ⟨rfl, HB.out⟩
      · have HO := Lib.hid (keyOut_ok l (by omega))
        go_wp2
        go_ret2
        rw [HO.out]
        exact ⟨rfl, HB.out⟩
end Go.Proofs.YtgmneapgihakgaaGreatDoor
