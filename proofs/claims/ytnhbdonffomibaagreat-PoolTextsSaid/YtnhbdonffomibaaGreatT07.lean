/- Texts of one seat, merged. -/
import Derived.Test.YtnhbdonffomibaaGreatT01
import Derived.Deep.LoopGhost
import Derived.OwnWalk
import Derived.Lib.Hide
import Derived.BigQuiet
import Derived.Deep.DeepCutAuto
import Derived.Test.YtnhbdonffomibaaGreatT03
import Derived.Test.YtnhbdonffomibaaGreatT04
import Derived.Test.YtnhbdonffomibaaGreatT02
import Derived.Shelf.Spec.SlicesInsert
import Derived.Shelf.RegionOpenPlain
set_option maxRecDepth 100000
set_option maxHeartbeats 4000000
set_option linter.unusedVariables false
/- The document's answers of sets of numbers: Has, Without, With, Of, Same. -/
namespace Go.Proofs.YtnhbdonffomibaaGreat.Ps
def without (l : List Nat) (x : Nat) : List Nat := l.filter (fun y => y != x)
def step (x : Nat) (s : List Nat × Bool) (y : Nat) : List Nat × Bool := if !s.2 && decide (x < y) then (s.1 ++ [x] ++ [y], true) else (s.1 ++ [y], s.2)
/-- What stands when a part of the row was gone through: what there is, whether the number is in. -/
def run (x : Nat) (l : List Nat) : List Nat × Bool := l.foldl (step x) ([], false)
def withL (l : List Nat) (x : Nat) : List Nat := if (run x (without l x)).2 then (run x (without l x)).1 else (run x (without l x)).1 ++ [x]
def ofL (l : List Nat) : List Nat := l.foldl withL []
theorem run_snoc (x : Nat) (l : List Nat) (y : Nat) : run x (l ++ [y]) = step x (run x l) y := by simp [run]
theorem fold_len (x : Nat) : ∀ (l : List Nat) (s : List Nat × Bool), (l.foldl (step x) s).1.length + (cond s.2 1 0) = s.1.length + l.length + (cond (l.foldl (step x) s).2 1 0)
  | [], s => by simp
  | y :: l, s => by
    rw [List.foldl_cons]
    have ih := fold_len x l (step x s y)
    have h1 : (step x s y).1.length + (cond s.2 1 0) = s.1.length + 1 + (cond (step x s y).2 1 0) := by
      unfold step
      cases hs : s.2 <;> by_cases h : x < y <;> simp [h] <;> omega
    rw [List.length_cons]
    omega
theorem run_len (x : Nat) (l : List Nat) : (run x l).1.length = l.length + (cond (run x l).2 1 0) := by
  have := fold_len x l ([], false)
  simpa [run] using this
theorem without_len (l : List Nat) (x : Nat) : (without l x).length ≤ l.length := List.length_filter_le _ _
theorem withL_len (l : List Nat) (x : Nat) : (withL l x).length ≤ l.length + 1 := by
  have h := run_len x (without l x)
  have h2 := without_len l x
  unfold withL
  split
  · rename_i hc
    rw [hc] at h
    simp at h
    omega
  · rename_i hc
    rw [List.length_append, List.length_singleton]
    simp at hc
    rw [hc] at h
    simp at h
    omega
theorem of_len : ∀ (l s : List Nat), (l.foldl withL s).length ≤ s.length + l.length
  | [], s => by simp
  | x :: l, s => by
    rw [List.foldl_cons, List.length_cons]
    have := of_len l (withL s x)
    have := withL_len s x
    omega
theorem ofL_len (l : List Nat) : (ofL l).length ≤ l.length := by
  have := of_len l []
  simpa [ofL] using this
theorem take_snoc {α : Type} {l : List α} {k : Nat} {y : α} (h : l[k]? = some y) : l.take (k + 1) = l.take k ++ [y] := by rw [List.take_add_one, h]; rfl
theorem without_snoc {l : List Nat} {k y : Nat} (x : Nat) (h : l[k]? = some y) : without (l.take (k + 1)) x = if y = x then without (l.take k) x else without (l.take k) x ++ [y] := by
  rw [take_snoc h]
  unfold without
  rw [List.filter_append]
  by_cases hy : y = x <;> simp [hy]
theorem ofL_take {l : List Nat} {k y : Nat} (h : l[k]? = some y) : ofL (l.take (k + 1)) = withL (ofL (l.take k)) y := by
  rw [take_snoc h]; simp [ofL]
theorem run_take (x : Nat) {l : List Nat} {k y : Nat} (h : l[k]? = some y) : run x (l.take (k + 1)) = step x (run x (l.take k)) y := by
  rw [take_snoc h, run_snoc]
end Go.Proofs.YtnhbdonffomibaaGreat.Ps
namespace Go.Proofs.YtnhbdonffomibaaGreat
open Go.RowKit
def SlN (w : World) (v : Value) (l : List Nat) : Prop :=
  ∃ (a : Option Addr) (b o c : Nat), v = .slice a l.length c ∧ (l = [] ∨ a = some ⟨b, o, none⟩) ∧ ∀ (j : Nat) x, l[j]? = some x → w.cell? ⟨b, o + j, none⟩ = some (.int .u32 x)
theorem SlN.below {w w' : World} {v : Value} {l : List Nat} (h : SlN w v l) (hb : Below w.heap.size w w') : SlN w' v l := by
  obtain ⟨a, b, o, c, hv, ha, hx⟩ := h
  refine ⟨a, b, o, c, hv, ha, fun j x hj => ?_⟩
  have h0 := hx j x hj
  exact (hb.cell (p := ⟨b, o + j, none⟩) (World.block_lt_of_cell? _ _ h0)).trans h0
def num (x : Nat) : Value := .int .u32 x
def RowN (w : World) (B : Nat) (v : Value) (l : List Nat) : Prop := w.ownsRow B 40 1 v l.length (l.map num)
theorem RowN.sl {w : World} {B : Nat} {v : Value} {l : List Nat} (h : RowN w B v l) : SlN w v l := by
  have hw : w.ownsRow B 40 1 v l.length (l.map num) := h
  obtain ⟨_, h1⟩ := hw
  rcases h1 with ⟨rfl, h0⟩ | ⟨g, cap, cur, rfl, _⟩
  · obtain rfl : l = [] := List.length_eq_zero_iff.1 h0
    exact ⟨none, 0, 0, 0, rfl, .inl rfl, fun j p hj => by simp at hj⟩
  · refine ⟨_, g, 0, cap, rfl, .inr rfl, fun j p hj => ?_⟩
    have hlt := (List.getElem?_eq_some_iff.1 hj).1
    rw [Nat.zero_add]
    exact ((show w.ownsRow B 40 1 _ l.length (l.map num) from h).cellAt j (by omega)).trans (by simp [hj, num])
theorem has_of {l : List Nat} {k : Nat} (h : k < l.length) : ∃ x, l[k]? = some x := ⟨l[k], List.getElem?_eq_getElem h⟩
theorem infoN : (Tryz.prog.info? 40).map (fun i => (i.zero, i.size, i.bytes)) = some (some (.int .u32 0), 1, 4) := by kernel_rfl
theorem add_at (b j : Nat) : (⟨b, 0, none⟩ : Addr).add j = ⟨b, j, none⟩ := by
  unfold Addr.add; split <;> simp_all
theorem RowN.below {w w' : World} {B : Nat} {v : Value} {l : List Nat} (h : RowN w B v l) (hb : Below w.heap.size w w') : RowN w' B v l := by
  obtain ⟨h0, h1⟩ := h
  refine ⟨h0, ?_⟩
  rcases h1 with h1 | ⟨g, cap, cur, hv, hB, hg, h2, h3, h4, h5⟩
  · exact .inl h1
  · refine .inr ⟨g, cap, cur, hv, hB, ?_, h2, h3, h4, h5⟩
    rw [hb.block g (Array.getElem?_eq_some_iff.1 hg).1]; exact hg
theorem RowN.slice {w : World} {B : Nat} {v : Value} {l : List Nat} (h : RowN w B v l) : ∃ a c, v = .slice a l.length c := by
  have h' : w.ownsRow B 40 1 v l.length (l.map num) := h
  rcases h'.2 with ⟨rfl, h0⟩ | ⟨g, cap, cur, rfl, _⟩
  · exact ⟨none, 0, by rw [h0]⟩
  · exact ⟨_, _, rfl⟩
end Go.Proofs.YtnhbdonffomibaaGreat
/- The document's answers of sets of numbers: With, Of, Same. -/
namespace Go.Proofs.YtnhbdonffomibaaGreat
open Go.RowKit
theorem RowN.base {w : World} {B B' : Nat} {v : Value} {l : List Nat} (h : RowN w B v l) (hb : B' ≤ B) : RowN w B' v l := by
  obtain ⟨h0, h1⟩ := h
  refine ⟨h0, ?_⟩
  rcases h1 with h1 | ⟨g, cap, cur, hv, hB, hg, h2, h3, h4, h5⟩
  · exact .inl h1
  · exact .inr ⟨g, cap, cur, hv, Nat.le_trans hb hB, hg, h2, h3, h4, h5⟩
end Go.Proofs.YtnhbdonffomibaaGreat
/- What two numbers are to each other; where a number stands in a rising row. -/
namespace Go.Proofs.YtnhbdonffomibaaGreat
open Go.RowKit
theorem cNaN_any (x : Nat) (w : World) : Calls Tryz.prog 92 #[.int .u32 x] w fun e w' => e = .returned (.bool false) ∧ w = w' := by
  go_enter Tryz.func92, Tryz.ntmps92
  go_wp2
  go_ret
  exact ⟨rfl, rfl⟩
theorem cLess_any (x y : Nat) (w : World) : Calls Tryz.prog 89 #[.int .u32 x, .int .u32 y] w fun e w' => e = .returned (.bool (decide (x < y))) ∧ w = w' := by
  have hd : decide ((x : Int) < (y : Int)) = decide (x < y) := by congr 1; apply propext; omega
  go_enter Tryz.func89, Tryz.ntmps89
  go_wp2_with (go_at_call 92; refine (cNaN_any _ _).mono ?_; rintro e w1 ⟨rfl, rfl⟩)
  go_ret
  exact ⟨by rw [← hd]; rfl, rfl⟩
def rising (l : List Nat) : Prop := ∀ (i j a b : Nat), i < j → l[i]? = some a → l[j]? = some b → a < b
/-- Where a number stands, or would stand. -/
structure At (l : List Nat) (x p : Nat) : Prop where
  le : p ≤ l.length
  low : ∀ m y, m < p → l[m]? = some y → y < x
  high : ∀ m y, p ≤ m → l[m]? = some y → x ≤ y
theorem bin32_any (v : Value) (l : List Nat) (hll : l.length ≤ 100000) (x : Nat) (w : World) (hv : SlN w v l) (hr : rising l) :
    Calls Tryz.prog 78 #[v, .int .u32 x] w fun e w' => ∃ p, e = .returned (.tuple #[.int .i64 (p : Nat), .bool (decide (l[p]? = some x))]) ∧ At l x p ∧ w = w' := by
  have HR := Lib.hid hr
  obtain ⟨a, b, o, c, rfl, ha, hx⟩ := hv
  have HX := Lib.hid hx
  have HA := Lib.hid ha
  clear ha hx hr
  go_enter Tryz.func78, Tryz.ntmps78
  go_wp2
  go_loopg [7, 8] l.length (fun n i j wr => ∃ p q : Nat, p ≤ q ∧ q ≤ l.length ∧ n = q - p ∧ i = .int .i64 p ∧ j = .int .i64 q ∧ Hid (∀ m y, m < p → l[m]? = some y → y < x) ∧ Hid (∀ m y, q ≤ m → l[m]? = some y → x ≤ y) ∧ w = wr)
  case atStart => exact ⟨0, l.length, Nat.zero_le _, Nat.le_refl _, rfl, rfl, rfl, fun m y h => absurd h (Nat.not_lt_zero m), fun m y h hx => absurd (List.getElem?_eq_some_iff.1 hx).1 (Nat.not_lt.2 h), rfl⟩
  case round =>
    obtain ⟨p, q, hpq, hql, rfl, rfl, rfl, HLO, HHI, rfl⟩ := hrel
    by_cases hlt : p < q
    · obtain ⟨h, hh⟩ : ∃ h : Nat, h = (p + q) / 2 := ⟨_, rfl⟩
      obtain ⟨y, hy⟩ := has_of (l := l) (k := h) (by omega)
      have d0 := HX.out h y hy
      obtain rfl : a = some ⟨b, o, none⟩ := by
        rcases HA.out with h' | h'
        · rw [h'] at hql; have : q ≤ 0 := hql; omega
        · exact h'
      have HY := Lib.hid hy
      have hhE : ((p : Int) + q) / 2 = (h : Int) := by omega
      have hb1 : p ≤ h := by omega
      have hb2 : h < q := by omega
      have hb3 : h < l.length := by omega
      have hb4 : (h : Int) < l.length := by omega
      have HL := Lib.hid (cLess_any y x w)
      clear hy hh
      go_upto_region 5 with fail
      clear hhE
      by_cases hyx : y < x
      · rw [decide_eq_true hyx] at HL
        have HYX := Lib.hid hyx
        clear hyx
        go_wp2_with (go_at_call 89; refine HL.out.mono ?_; rintro e w4 ⟨rfl, rfl⟩)
        go_roundg (q - (h + 1))
        case measure => omega
        case rel =>
          refine ⟨h + 1, q, by omega, by omega, rfl, by go_num, rfl, fun m z hm hz => ?_, HHI, rfl⟩
          by_cases hmh : m = h
          · subst hmh
            rw [HY.out] at hz
            cases hz
            exact HYX.out
          · exact Nat.lt_trans (HR.out m h z y (by omega) hz HY.out) HYX.out
      · rw [decide_eq_false hyx] at HL
        have HYX := Lib.hid hyx
        clear hyx
        go_wp2_with (go_at_call 89; refine HL.out.mono ?_; rintro e w4 ⟨rfl, rfl⟩)
        go_roundg (h - p)
        case measure => omega
        case rel =>
          refine ⟨p, h, by omega, by omega, rfl, rfl, rfl, HLO, fun m z hm hz => ?_, rfl⟩
          have hn := HYX.out
          by_cases hmh : m = h
          · subst hmh
            rw [HY.out] at hz
            cases hz
            omega
          · have := HR.out h m y z (by omega) HY.out hz
            omega
    · obtain rfl : p = q := by omega
      have HAT : Hid (At l x p) := ⟨hql, HLO.out, HHI.out⟩
      by_cases hn : p < l.length
      · obtain ⟨y, hy⟩ := has_of hn
        have d0 := HX.out p y hy
        obtain rfl : a = some ⟨b, o, none⟩ := by
          rcases HA.out with h' | h'
          · rw [h'] at hn; cases hn
          · exact h'
        have hn' : (p : Int) < l.length := by omega
        have HN := Lib.hid (cNaN_any x w)
        by_cases hyx : y = x
        · subst hyx
          have HD : Hid (decide (l[p]? = some y) = true) := decide_eq_true hy
          clear hy
          go_wp2
          go_ret2
          exact ⟨p, by rw [HD.out]; rfl, HAT.out, rfl⟩
        · have HD : Hid (decide (l[p]? = some x) = false) := decide_eq_false (by rw [hy]; intro h; cases h; exact hyx rfl)
          have hne : ¬ (y : Int) = (x : Int) := by omega
          have hbe : ((y : Int) == (x : Int)) = false := by rw [beq_eq_false_iff_ne]; exact hne
          have HBE := Lib.hid hbe
          clear hy hyx
          go_wp2
          go_ret2
          refine ⟨p, ?_, HAT.out, rfl⟩
          rw [HD.out]
          first | rfl | (show Ending.returned (.tuple #[.int .i64 p, .bool ((y : Int) == (x : Int))]) = _; rw [HBE.out])
      · have HD : Hid (decide (l[p]? = some x) = false) := decide_eq_false (by rw [List.getElem?_eq_none (by omega)]; intro h; cases h)
        have hn' : ¬ (p : Int) < l.length := by omega
        go_wp2
        go_ret2
        exact ⟨p, by rw [HD.out]; rfl, HAT.out, rfl⟩
end Go.Proofs.YtnhbdonffomibaaGreat
/- A set's box; where a number stands in it. -/
namespace Go.Proofs.YtnhbdonffomibaaGreat
open Go.RowKit
def cmp3 (x y : Nat) : Int := if x < y then -1 else if y < x then 1 else 0
theorem cCmp_any (x y : Nat) (w : World) : Calls Tryz.prog 75 #[.int .u32 x, .int .u32 y] w fun e w' => e = .returned (.int .i64 (cmp3 x y)) ∧ w = w' := by
  have hq : cmp3 x y = if x < y then -1 else if y < x then 1 else 0 := rfl
  have HQ := Lib.hid hq
  clear hq
  generalize cmp3 x y = r at HQ ⊢
  by_cases h1 : x < y
  · have i1 : (x : Int) < (y : Int) := by omega
    have hr : r = -1 := by rw [HQ.out, if_pos h1]
    subst hr
    clear h1
    go_enter Tryz.func75, Tryz.ntmps75
    go_wp2_with (go_at_call 92; refine (cNaN_any _ _).mono ?_; rintro e w1 ⟨rfl, rfl⟩)
    go_ret
    exact ⟨rfl, rfl⟩
  · have i1 : ¬ (x : Int) < (y : Int) := by omega
    by_cases h2 : y < x
    · have i2 : (y : Int) < (x : Int) := by omega
      have hr : r = 1 := by rw [HQ.out, if_neg h1, if_pos h2]
      subst hr
      clear h1 h2
      go_enter Tryz.func75, Tryz.ntmps75
      go_wp2_with (go_at_call 92; refine (cNaN_any _ _).mono ?_; rintro e w1 ⟨rfl, rfl⟩)
      go_ret
      exact ⟨rfl, rfl⟩
    · have i2 : ¬ (y : Int) < (x : Int) := by omega
      have hr : r = 0 := by rw [HQ.out, if_neg h1, if_neg h2]
      subst hr
      clear h1 h2
      go_enter Tryz.func75, Tryz.ntmps75
      go_wp2_with (go_at_call 92; refine (cNaN_any _ _).mono ?_; rintro e w1 ⟨rfl, rfl⟩)
      go_ret
      exact ⟨rfl, rfl⟩
theorem psame_any (x y : Nat) (w : World) : Calls Tryz.prog 59 #[.int .u32 x, .int .u32 y] w fun e w' => e = .returned (.bool (decide (x = y))) ∧ w = w' := by
  have HC := Lib.hid (cCmp_any x y)
  by_cases h : x = y
  · subst h
    have h0 : cmp3 x x = 0 := by simp [cmp3]
    rw [h0] at HC
    rw [decide_eq_true rfl]
    clear h0
    go_enter Tryz.func59, Tryz.ntmps59
    go_wp2_with (go_at_call 75; refine (HC.out _).mono ?_; rintro e w1 ⟨rfl, rfl⟩)
    go_ret
    exact ⟨rfl, rfl⟩
  · rw [decide_eq_false h]
    have h0 : cmp3 x y = -1 ∨ cmp3 x y = 1 := by
      unfold cmp3
      by_cases h1 : x < y
      · exact .inl (if_pos h1)
      · exact .inr (by rw [if_neg h1, if_pos (by omega)])
    clear h
    rcases h0 with h0 | h0
    all_goals
      rw [h0] at HC
      clear h0
      go_enter Tryz.func59, Tryz.ntmps59
      go_wp2_with (go_at_call 75; refine (HC.out _).mono ?_; rintro e w1 ⟨rfl, rfl⟩)
      go_ret
      exact ⟨rfl, rfl⟩
/-- A set's box: a rising row of its own. -/
structure SetW (w : World) (p B : Nat) (v : Value) (l : List Nat) : Prop where
  c0 : w.cell? ⟨p, 0, none⟩ = some v
  f0 : w.frozen? ⟨p, 0, none⟩ = false
  row : RowN w B v l
  rise : rising l
  ne : v.ownBlock ≠ some p
theorem SetW.below {w w' : World} {p B : Nat} {v : Value} {l : List Nat} (h : SetW w p B v l) (hb : Below w.heap.size w w') : SetW w' p B v l := by
  have hlt := World.block_lt_of_cell? _ _ h.c0
  exact ⟨(hb.cell (p := ⟨p, 0, none⟩) hlt).trans h.c0, (hb.frozen (p := ⟨p, 0, none⟩) hlt).trans h.f0, h.row.below hb, h.rise, h.ne⟩
theorem set_not_nil (w : World) (q : Nat) : (binOp .eql 61 (.pointer (some ⟨q, 0, none⟩)) (.pointer none)).run Tryz.prog w = .ok (.bool false) w := by kernel_rfl
theorem place_any {w : World} {p B : Nat} {v : Value} {l : List Nat} (h : SetW w p B v l) (hl : l.length ≤ 100000) (x : Nat) :
    Calls Tryz.prog 63 #[.pointer (some ⟨p, 0, none⟩), .int .u32 x] w fun e w' => ∃ k, e = .returned (.tuple #[.int .i64 (k : Nat), .bool (decide (l[k]? = some x))]) ∧ At l x k ∧ w = w' := by
  have HB := Lib.hid (bin32_any v l hl x w h.row.sl h.rise)
  have hn := fun W => set_not_nil W p
  have c0 := h.c0
  obtain ⟨a, c, rfl⟩ := h.row.slice
  clear h
  go_enter Tryz.func63, Tryz.ntmps63
  go_wp2_with (go_at_call 78; refine HB.out.mono ?_; rintro e w1 ⟨k, rfl, hat, rfl⟩; have HAT := Lib.hid hat; clear hat)
  go_ret2
  exact ⟨k, rfl, HAT.out, rfl⟩
end Go.Proofs.YtnhbdonffomibaaGreat
/- A set of numbers: its box; where a number stands in it, how many, what stands at a place, above a number. -/
namespace Go.Proofs.YtnhbdonffomibaaGreat
open Go.RowKit Go.Sort
open Tx (Rise Ord above)
abbrev eV : Nat → Value := fun x => .int .u32 x
def vlt (x y : Nat) : Bool := decide (x < y)
theorem vord : Ord vlt where
  irr x := decide_eq_false (Nat.lt_irrefl x)
  tr h1 h2 := decide_eq_true (Nat.lt_trans (of_decide_eq_true h1) (of_decide_eq_true h2))
  tri h1 h2 := Nat.le_antisymm (Nat.not_lt.1 (of_decide_eq_false h2)) (Nat.not_lt.1 (of_decide_eq_false h1))
theorem infoV : (Tryz.prog.info? 40).map (fun i => (i.zero, i.size, i.bytes)) = some (some (.int .u32 0), 1, 4) := by kernel_rfl
abbrev SlV := @SlP Nat eV
abbrev RowV := @RowP Nat eV 40
theorem uxBin_any (v : Value) (l : List Nat) (hl : l.length ≤ 100000) (x : Nat) (w : World) (hv : SlV w v l) (hr : Rise vlt l) :
    Calls Tryz.prog 78 #[v, .int .u32 x] w fun e w' => ∃ p, e = .returned (.tuple #[.int .i64 (p : Nat), .bool (decide (l[p]? = some x))]) ∧ Tx.At vlt l x p ∧ ∃ q, w' = w.drewN q := by
  refine (bin32_any v l hl x w hv (fun i j a b hij ha hb => ?_)).mono ?_
  · have h1 := (List.getElem?_eq_some_iff.1 ha).1
    have h2 := (List.getElem?_eq_some_iff.1 hb).1
    have := List.pairwise_iff_getElem.1 hr i j h1 h2 hij
    rw [(List.getElem?_eq_some_iff.1 ha).2, (List.getElem?_eq_some_iff.1 hb).2] at this
    exact of_decide_eq_true this
  · rintro e w' ⟨p, he, hat, rfl⟩
    exact ⟨p, he, ⟨hat.le, fun m y hm hy => decide_eq_true (hat.low m y hm hy), fun m y hm hy => decide_eq_false (Nat.not_lt.2 (hat.high m y hm hy))⟩, 0, rfl⟩
/-- A set's box: a rising row of its own. -/
structure SetV (w : World) (p B : Nat) (v : Value) (l : List Nat) : Prop where
  c0 : w.cell? ⟨p, 0, none⟩ = some v
  f0 : w.frozen? ⟨p, 0, none⟩ = false
  row : RowV w B v l
  rise : Rise vlt l
  ne : v.ownBlock ≠ some p
theorem SetV.below {w w' : World} {p B : Nat} {v : Value} {l : List Nat} (h : SetV w p B v l) (hb : Below w.heap.size w w') : SetV w' p B v l := by
  have hlt := World.block_lt_of_cell? _ _ h.c0
  exact ⟨(hb.cell (p := ⟨p, 0, none⟩) hlt).trans h.c0, (hb.frozen (p := ⟨p, 0, none⟩) hlt).trans h.f0, h.row.below hb, h.rise, h.ne⟩
theorem below_drewV {B : Nat} {w w' : World} (h : Below B w w') (q : Nat) : Below B w (w'.drewN q) := ⟨h.os, h.tape, h.output, h.size, h.block⟩
theorem SetV.drewN {w : World} {p B : Nat} {v : Value} {l : List Nat} (h : SetV w p B v l) (q : Nat) : SetV (w.drewN q) p B v l := h.below (below_drewV (Below.refl _ w) q)
theorem setV_not_nil (w : World) (q : Nat) : (binOp .eql 61 (.pointer (some ⟨q, 0, none⟩)) (.pointer none)).run Tryz.prog w = .ok (.bool false) w := by kernel_rfl
theorem uxPlace_any {w : World} {p B : Nat} {v : Value} {l : List Nat} (h : SetV w p B v l) (hl : l.length ≤ 100000) (x : Nat) :
    Calls Tryz.prog 63 #[.pointer (some ⟨p, 0, none⟩), .int .u32 x] w fun e w' => ∃ k, e = .returned (.tuple #[.int .i64 (k : Nat), .bool (decide (l[k]? = some x))]) ∧ Tx.At vlt l x k ∧ ∃ q, w' = w.drewN q := by
  have HB := Lib.hid (uxBin_any v l hl x w h.row.sl h.rise)
  have hn := fun W => setV_not_nil W p
  have c0 := h.c0
  obtain ⟨a, c, rfl⟩ := h.row.slice
  clear h
  go_enter Tryz.func63, Tryz.ntmps63
  go_wp2_with (go_at_call 78; refine HB.out.mono ?_; rintro e w1 ⟨k, rfl, hat, q, rfl⟩; have HAT := Lib.hid hat; clear hat)
  go_ret2
  exact ⟨k, rfl, HAT.out, q, rfl⟩
theorem uxLen_any {w : World} {p B : Nat} {v : Value} {l : List Nat} (h : SetV w p B v l) :
    Calls Tryz.prog 93 #[.pointer (some ⟨p, 0, none⟩)] w fun e w' => e = .returned (.int .i64 (l.length : Nat)) ∧ w = w' := by
  have hn := fun W => setV_not_nil W p
  have c0 := h.c0
  obtain ⟨a, c, rfl⟩ := h.row.slice
  clear h
  go_enter Tryz.func93, Tryz.ntmps93
  go_wp2
  go_ret
  exact ⟨rfl, rfl⟩
/-- What stands at a place, if it is one. -/
def atV (l : List Nat) (k : Int) : Nat × Bool := if 0 ≤ k ∧ k < l.length then ((l[k.toNat]?).getD 0, true) else (0, false)
theorem uxAt_any {w : World} {p B : Nat} {v : Value} {l : List Nat} (h : SetV w p B v l) (k : Int) :
    Calls Tryz.prog 76 #[.pointer (some ⟨p, 0, none⟩), .int .i64 k] w fun e w' => e = .returned (.tuple #[.int .u32 (atV l k).1, .bool (atV l k).2]) ∧ w = w' := by
  have HL := Lib.hid (uxLen_any h)
  have c0 := h.c0
  have HS := Lib.hid h.row.sl
  obtain ⟨a, c, rfl⟩ := h.row.slice
  clear h
  have HQ : Hid (atV l k = if 0 ≤ k ∧ k < l.length then ((l[k.toNat]?).getD 0, true) else (0, false)) := rfl
  generalize atV l k = r at HQ ⊢
  by_cases h0 : 0 ≤ k
  · have i0 : ¬ k < 0 := by omega
    by_cases h1 : k < l.length
    · obtain ⟨n, rfl⟩ := Int.eq_ofNat_of_zero_le h0
      have hn : n < l.length := by omega
      have hy : l[n]? = some l[n] := List.getElem?_eq_getElem hn
      have hr : r = (l[n], true) := by rw [HQ.out, if_pos ⟨h0, h1⟩, Int.toNat_natCast, hy]; rfl
      subst hr
      obtain ⟨a', b, o, c', he, ha, hx⟩ := HS.out
      obtain rfl : a = a' := by cases he; rfl
      obtain rfl : a = some ⟨b, o, none⟩ := ha.resolve_left (by intro h; rw [h] at hn; cases hn)
      have d0 := hx n _ hy
      generalize l[n] = y at d0 ⊢
      have i1 : ¬ (l.length : Int) ≤ (n : Int) := by omega
      clear HQ he ha hx hy
      go_enter Tryz.func76, Tryz.ntmps76
      go_wp2_with (go_at_call 93; refine HL.out.mono ?_; rintro e w1 ⟨rfl, rfl⟩)
      go_ret2
      exact ⟨rfl, rfl⟩
    · have hr : r = (0, false) := by rw [HQ.out, if_neg (fun h => h1 h.2)]
      subst hr
      have i1 : (l.length : Int) ≤ k := by omega
      clear HQ h1
      go_enter Tryz.func76, Tryz.ntmps76
      go_wp2_with (go_at_call 93; refine HL.out.mono ?_; rintro e w1 ⟨rfl, rfl⟩)
      go_ret2
      exact ⟨rfl, rfl⟩
  · have hr : r = (0, false) := by rw [HQ.out, if_neg (fun h => h0 h.1)]
    subst hr
    have i0 : k < 0 := by omega
    clear HQ h0
    go_enter Tryz.func76, Tryz.ntmps76
    go_wp2
    go_ret2
    exact ⟨rfl, rfl⟩
/-- The first of a row, if it has one. -/
def fstV (l : List Nat) : Nat × Bool := match l with | [] => (0, false) | x :: _ => (x, true)
theorem fstV_drop (l : List Nat) (n : Nat) : atV l n = fstV (l.drop n) := by
  unfold atV
  by_cases h : n < l.length
  · rw [if_pos ⟨by omega, by omega⟩, Int.toNat_natCast, List.drop_eq_getElem_cons h, List.getElem?_eq_getElem h]; rfl
  · rw [if_neg (by omega), List.drop_eq_nil_of_le (by omega)]; rfl
theorem uxLeast_any {w : World} {p B : Nat} {v : Value} {l : List Nat} (h : SetV w p B v l) :
    Calls Tryz.prog 60 #[.pointer (some ⟨p, 0, none⟩)] w fun e w' => e = .returned (.tuple #[.int .u32 (fstV l).1, .bool (fstV l).2]) ∧ w = w' := by
  have HA := Lib.hid (uxAt_any h 0)
  have e0 : atV l 0 = fstV l := fstV_drop l 0
  rw [e0] at HA
  clear h e0
  generalize fstV l = r at HA ⊢
  go_enter Tryz.func60, Tryz.ntmps60
  go_wp2_with (go_at_call 76; refine HA.out.mono ?_; rintro e w1 ⟨rfl, rfl⟩)
  go_ret2
  exact ⟨rfl, rfl⟩
end Go.Proofs.YtnhbdonffomibaaGreat
/- Rows of numbers of one's own, as rows of cells. -/
namespace Go.Proofs.YtnhbdonffomibaaGreat
open Go.RowKit
def cellsU (x : Nat) : List Value := [.int .u32 x]
theorem cellsU_len (x : Nat) : (cellsU x).length = 1 := rfl
theorem cellsU_one (x : Nat) : ∀ u ∈ cellsU x, u.oneCell' = true := by
  intro u hu
  simp [cellsU] at hu
  subst hu
  rfl
theorem infoU : (Tryz.prog.info? 40).map (fun i => (i.zero, i.size, i.bytes)) = some (some (.int .u32 0), 1, 4) := by kernel_rfl
def RowU (w : World) (B : Nat) (v : Value) (l : List Nat) : Prop := w.ownsRow B 40 1 v l.length (l.flatMap cellsU)
theorem flat_oneU (l : List Nat) : ∀ u ∈ l.flatMap cellsU, u.oneCell' = true := by
  intro u hu
  obtain ⟨x, _, h⟩ := List.mem_flatMap.1 hu
  exact cellsU_one x u h
end Go.Proofs.YtnhbdonffomibaaGreat
/- The contract of slices.Insert of one cell, at a row of one's own. -/
namespace Go.Proofs.YtnhbdonffomibaaGreat
open Go.RowKit
open Sl (Cl Kd)
inductive InsOutU (B : Nat) (u : Value) (l : List Nat) (w : World) (e : Ending) (w' : World) : Prop
  | mk (v : Value) (he : e = .returned v) (hr : RowU w' B v l) (hb : Below B w w') (hk : ∀ k, u.ownBlock ≠ some k → k < w.heap.size → w'.heap[k]? = w.heap[k]?) (hf : v.ownBlock = u.ownBlock ∨ ∃ g, v.ownBlock = some g ∧ w.heap.size ≤ g)
theorem flatAtU (x : Nat) (vb : Nat) (T : TypeId) (w : World) (hvb : w.heap[vb]? = some (.cells (cellsU x).toArray T (0, 0))) : ∀ j u, (cellsU x)[j]? = some u → w.cell? ((⟨vb, 0, none⟩ : Addr).add j) = some u := by
  intro j u hj
  rw [add_plain', Nat.zero_add, cell_of_row w vb j _ T (0, 0) hvb]
  simpa using hj
theorem rowAtU (w : World) (g : Nat) (cur : Array Value) (l : List Nat) (hg : w.heap[g]? = some (.cells cur 40 (0, 0))) (htk : cur.toList.take (l.length * 1) = l.flatMap cellsU) (k : Nat) : ∀ j u, ((l.flatMap cellsU).drop (k * 1))[j]? = some u → w.cell? ((⟨g, k * 1, none⟩ : Addr).add j) = some u := by
  intro j u hj
  rw [add_plain', cell_of_row w g _ _ _ (0, 0) hg]
  rw [List.getElem?_drop, ← htk] at hj
  have hlt := (List.getElem?_eq_some_iff.1 hj).1
  rw [List.length_take] at hlt
  rw [List.getElem?_take_of_lt (by omega)] at hj
  simpa using hj
theorem flat_takeU (l : List Nat) (x : Nat) (i : Nat) : (l.flatMap cellsU).take (i * 1) ++ cellsU x ++ (l.flatMap cellsU).drop (i * 1) = (l.take i ++ x :: l.drop i).flatMap cellsU := by
  have h : ∀ (l : List Nat) (i : Nat), (l.flatMap cellsU).take (i * 1) = (l.take i).flatMap cellsU ∧ (l.flatMap cellsU).drop (i * 1) = (l.drop i).flatMap cellsU := by
    intro l
    induction l with
    | nil => intro i; simp
    | cons y t ih =>
      intro i
      cases i with
      | zero => simp
      | succ i =>
        obtain ⟨h1, h2⟩ := ih i
        have hl := cellsU_len y
        rw [List.flatMap_cons, List.take_succ_cons, List.drop_succ_cons, List.flatMap_cons, show (i + 1) * 1 = (cellsU y).length + i * 1 by rw [hl]; omega, List.take_append, List.drop_append]
        rw [List.take_of_length_le (by omega), List.drop_of_length_le (by omega), Nat.add_sub_cancel_left, h1, h2]
        exact ⟨rfl, rfl⟩
  obtain ⟨h1, h2⟩ := h l i
  rw [h1, h2, List.flatMap_append, List.flatMap_cons, List.append_assoc]
set_option maxHeartbeats 4000000 in
theorem insertU_shift (B g cap i vb vc : Nat) (cur : Array Value) (l : List Nat) (x : Nat) (T : TypeId) (w : World) (hi : i < l.length) (hroom : l.length + 1 ≤ cap) (hcap : cap ≤ maxLen) (hg : w.heap[g]? = some (.cells cur 40 (0, 0))) (hB : B ≤ g) (hsz : cur.size = cap * 1) (htk : cur.toList.take (l.length * 1) = l.flatMap cellsU) (hvb : w.heap[vb]? = some (.cells (cellsU x).toArray T (0, 0))) (hne : vb ≠ g) :
    Calls Tryz.prog 64 #[.slice (some ⟨g, 0, none⟩) l.length cap, .int .i64 i, .slice (some ⟨vb, 0, none⟩) 1 vc] w (InsOutU B (.slice (some ⟨g, 0, none⟩) l.length cap) (l.take i ++ x :: l.drop i) w) := by
  obtain ⟨i0, hi0, hz0, hz1, hz2⟩ := info_parts infoU
  have hs1 : (Tryz.prog.info? 40).map (·.size) = some 1 := by rw [hi0]; simp [hz1]
  have hflen : (l.flatMap cellsU).length = l.length * 1 := flat_len _ _ cellsU_len _
  have hfd : ((l.flatMap cellsU).drop (i * 1)).length = (l.length - i) * 1 := by rw [List.length_drop, hflen]; omega
  have hxl := cellsU_len x
  have hxs : (cellsU x).toArray.size = 1 := by simpa using hxl
  have hcl : cur.toList.length = cap * 1 := by simpa using hsz
  have hov : ∀ lb cb, (callFunc 79 #[.slice (some ⟨vb, 0, none⟩) 1 vc, .slice (some ⟨g, (i + 1) * 1, none⟩) lb cb]).run Tryz.prog w = .ok (.value (.bool false)) w := fun lb cb => by
    rw [run_callFunc_extern Tryz.func79 (by kernel_rfl) (by kernel_rfl) (by kernel_rfl) (e := Extern.SlicesOverlaps.overlaps #[41, 41] #[4]) (by kernel_rfl),
      Lib.run_overlaps_apart w 41 4 40 Tryz.underlying41 1 (fun w => by kernel_rfl) ⟨vb, 0, none⟩ ⟨g, (i + 1) * 1, none⟩ 1 vc lb cb hne T 40 1 (cap * 1) (by simp [World.shape?, hvb, hxs]) (by simp [World.shape?, hg, hsz]) (by omega) (by simp [World.frozen?, hvb]) (by simp [World.frozen?, hvb])]
    rfl
  obtain ⟨R1, hR1⟩ : ∃ R1, R1 = cur.toList.take ((i + 1) * 1) ++ (l.flatMap cellsU).drop (i * 1) ++ cur.toList.drop ((i + 1) * 1 + ((l.flatMap cellsU).drop (i * 1)).length) := ⟨_, rfl⟩
  obtain ⟨R2, hR2⟩ : ∃ R2, R2 = R1.take (i * 1) ++ cellsU x ++ R1.drop (i * 1 + (cellsU x).length) := ⟨_, rfl⟩
  have hR1l : R1.length = cap * 1 := by rw [hR1]; simp only [List.length_append, List.length_take, List.length_drop, hcl, hflen]; omega
  have hcp1 : ∀ ty dl dc sl sc, dl = l.length - i → sl = l.length + 1 - i → (Builtin.copy_ #[41, 41] ty #[.slice (some ⟨g, (i + 1) * 1, none⟩) dl dc, .slice (some ⟨g, i * 1, none⟩) sl sc]).run Tryz.prog w.drew = .ok (goInt (Nat.min sl dl)) (w.drew.setRow g R1.toArray) := fun ty dl dc sl sc h1 h2 => by
    subst h1; subst h2
    rw [hR1]
    exact run_copy_rowS w.drew _ _ ty 40 1 g ((i + 1) * 1) _ dc ⟨g, i * 1, none⟩ _ sc cur 40 ((l.flatMap cellsU).drop (i * 1)) Tryz.underlying41 hs1 hg (by rw [hfd]; simp only [Nat.min_def]; split <;> omega) (rowAtU w.drew g cur l hg htk i) (by rw [hfd, hsz]; omega) (fun v hv => flat_oneU l v (List.mem_of_mem_drop hv))
  have hcp2 : ∀ (W : World), W.heap = (w.drew.setRow g R1.toArray).heap → ∀ ty dl dc, 1 ≤ dl → (Builtin.copy_ #[41, 41] ty #[.slice (some ⟨g, i * 1, none⟩) dl dc, .slice (some ⟨vb, 0, none⟩) 1 vc]).run Tryz.prog W = .ok (goInt (Nat.min 1 dl)) (W.setRow g R2.toArray) := fun W hW ty dl dc h1 => by
    have hgW : W.heap[g]? = some (.cells R1.toArray 40 (0, 0)) := by rw [hW]; exact setRow_heap w.drew g cur _ _ _ hg
    have hvW : W.heap[vb]? = some (.cells (cellsU x).toArray T (0, 0)) := by rw [hW, setRow_other w.drew g vb _ hne]; exact hvb
    have := run_copy_rowS (P := Tryz.prog) W 41 41 ty 40 1 g (i * 1) dl dc ⟨vb, 0, none⟩ 1 vc R1.toArray 40 (cellsU x) Tryz.underlying41 hs1 hgW (by rw [hxl]; simp only [Nat.min_def]; split <;> omega) (flatAtU x vb T W hvW) (by rw [hxl, List.size_toArray, hR1l]; omega) (fun v hv => cellsU_one x v hv)
    rw [this, hR2]
  have HR : Hid (R2.length = cap * 1 ∧ R2.take ((l.length + 1) * 1) = (l.take i ++ x :: l.drop i).flatMap cellsU) := by
    have e1 : (i + 1) * 1 = i * 1 + 1 := by omega
    rw [e1] at hR1
    refine ⟨?_, ?_⟩
    · rw [hR2, hR1, seg_ins_len (i * 1) (l.length * 1) 1 cur.toList _ _ (by omega) htk (by rw [hcl]; omega) hxl, hcl]
    · rw [show (l.length + 1) * 1 = l.length * 1 + 1 by omega, hR2, hR1, seg_ins (i * 1) (l.length * 1) 1 cur.toList _ _ (by omega) htk (by rw [hcl]; omega) hxl, flat_takeU]
  have HG := Lib.hid hg
  have HB := Lib.hid hB
  have hin : ¬ ((i : Int) = (l.length : Int)) := by omega
  have hb2 : ¬ (cap = i + 1) := by omega
  have hb4 : ¬ (cap = i) := by omega
  have hb5 : i ≤ l.length := by omega
  have hw1 : IntKind.i64.wrap ((i : Int) + 1) = (i : Int) + 1 := IntWalk.i64_in _ (by unfold maxLen at hcap; omega)
  have hw2 : IntKind.i64.wrap ((l.length : Int) + 1) = (l.length : Int) + 1 := IntWalk.i64_in _ (by unfold maxLen at hcap; omega)
  have HCAP := Lib.hid hcap
  unfold maxLen at hcap
  have hb1 : (0 : Int) ≤ (i : Int) + 1 := by omega
  have htn : ((i : Int) + 1).toNat = i + 1 := by omega
  have htn2 : ((l.length : Int) + 1).toNat = l.length + 1 := by omega
  have HROOM := Lib.hid hroom
  have hb3 : (i : Int) ≤ (l.length : Int) + 1 := by omega
  have mixed : Tryz.prog.follows Departure.mixedOrders = true := by kernel_rfl
  clear hR1 hR2 hR1l hflen hfd hxs hcl hsz htk hvb hg hs1 hi0 hz0 hz1 hz2 hxl
  go_enter Tryz.func64, Tryz.ntmps64
  simp only [Nat.mul_one] at hov hcp1 hcp2
  go_wp2_with (simp only [hov])
  go_region_law_o (refine Go.Proofs.step_copy_runI rfl _ _ 41 41 rfl _ _ (by simp [Act.eval, Act.put]) (by simp [Act.eval, Act.put]) (hcp1 _ _ _ _ _ (by omega) (by omega)) ?_)
  go_wp2_with (refine Go.Proofs.wpList_copy_runI (o := ⟨some 82, _, _, _, _, _⟩) _ rfl _ _ 41 41 rfl _ _ rfl rfl (hcp2 _ rfl _ _ _ (by omega)) ?_)
  go_ret
  refine ⟨_, rfl, ?_, ?_, fun k hk _ => ?_, .inl rfl⟩
  · have hgW : (w.drew.setRow g R1.toArray).heap[g]? = some (.cells R1.toArray 40 (0, 0)) := setRow_heap w.drew g cur _ _ _ HG.out
    have hlen : (l.take i ++ x :: l.drop i).length = l.length + 1 := by simp only [List.length_append, List.length_take, List.length_cons, List.length_drop]; omega
    show World.ownsRow _ _ _ _ _ _ _
    rw [hlen]
    exact owns_setRow hgW HB.out HROOM.out HCAP.out HR.out.1 (by rw [flat_len _ _ cellsU_len _, hlen]) HR.out.2
  · exact below_setRow (below_setRow (Below.refl _ _).drew HB.out _) HB.out _
  · have hkg : k ≠ g := fun h => hk (by rw [h]; rfl)
    exact (setRow_other _ g k _ hkg).trans (setRow_other _ g k _ hkg)
end Go.Proofs.YtnhbdonffomibaaGreat
