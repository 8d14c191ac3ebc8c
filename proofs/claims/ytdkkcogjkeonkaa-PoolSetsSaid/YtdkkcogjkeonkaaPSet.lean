/- A set's box; where a number stands in it. -/
import Derived.Test.YtdkkcogjkeonkaaPBin
set_option maxRecDepth 100000
set_option maxHeartbeats 4000000
set_option linter.unusedVariables false
namespace Go.Proofs.Ytdkkcogjkeonkaa
open Go.RowKit
def cmp3 (x y : Nat) : Int := if x < y then -1 else if y < x then 1 else 0
theorem cCmp_any (x y : Nat) (w : World) : Calls Try.prog 41 #[.int .u32 x, .int .u32 y] w fun e w' => e = .returned (.int .i64 (cmp3 x y)) ∧ w = w' := by
  have hq : cmp3 x y = if x < y then -1 else if y < x then 1 else 0 := rfl
  have HQ := Lib.hid hq
  clear hq
  generalize cmp3 x y = r at HQ ⊢
  by_cases h1 : x < y
  · have i1 : (x : Int) < (y : Int) := by omega
    have hr : r = -1 := by rw [HQ.out, if_pos h1]
    subst hr
    clear h1
    go_enter Try.func41, Try.ntmps41
    go_wp2_with (go_at_call 57; refine (cNaN_any _ _).mono ?_; rintro e w1 ⟨rfl, rfl⟩)
    go_ret
    exact ⟨rfl, rfl⟩
  · have i1 : ¬ (x : Int) < (y : Int) := by omega
    by_cases h2 : y < x
    · have i2 : (y : Int) < (x : Int) := by omega
      have hr : r = 1 := by rw [HQ.out, if_neg h1, if_pos h2]
      subst hr
      clear h1 h2
      go_enter Try.func41, Try.ntmps41
      go_wp2_with (go_at_call 57; refine (cNaN_any _ _).mono ?_; rintro e w1 ⟨rfl, rfl⟩)
      go_ret
      exact ⟨rfl, rfl⟩
    · have i2 : ¬ (y : Int) < (x : Int) := by omega
      have hr : r = 0 := by rw [HQ.out, if_neg h1, if_neg h2]
      subst hr
      clear h1 h2
      go_enter Try.func41, Try.ntmps41
      go_wp2_with (go_at_call 57; refine (cNaN_any _ _).mono ?_; rintro e w1 ⟨rfl, rfl⟩)
      go_ret
      exact ⟨rfl, rfl⟩
theorem psame_any (x y : Nat) (w : World) : Calls Try.prog 26 #[.int .u32 x, .int .u32 y] w fun e w' => e = .returned (.bool (decide (x = y))) ∧ w = w' := by
  have HC := Lib.hid (cCmp_any x y)
  by_cases h : x = y
  · subst h
    have h0 : cmp3 x x = 0 := by simp [cmp3]
    rw [h0] at HC
    rw [decide_eq_true rfl]
    clear h0
    go_enter Try.func26, Try.ntmps26
    go_wp2_with (go_at_call 41; refine (HC.out _).mono ?_; rintro e w1 ⟨rfl, rfl⟩)
    go_ret
    exact ⟨rfl, rfl⟩
  · rw [decide_eq_false h]
    have h0 : cmp3 x y = -1 ∨ cmp3 x y = 1 := by
      unfold cmp3
      by_cases h1 : x < y
      · exact .inl (if_pos h1)
      · exact .inr (by rw [if_neg h1, if_pos (by omega)])
    clear h
    rcases h0 with h0 | h0
    all_goals
      rw [h0] at HC
      clear h0
      go_enter Try.func26, Try.ntmps26
      go_wp2_with (go_at_call 41; refine (HC.out _).mono ?_; rintro e w1 ⟨rfl, rfl⟩)
      go_ret
      exact ⟨rfl, rfl⟩
/-- A set's box: a rising row of its own. -/
structure SetW (w : World) (p B : Nat) (v : Value) (l : List Nat) : Prop where
  c0 : w.cell? ⟨p, 0, none⟩ = some v
  f0 : w.frozen? ⟨p, 0, none⟩ = false
  row : RowN w B v l
  rise : rising l
  ne : v.ownBlock ≠ some p
theorem SetW.below {w w' : World} {p B : Nat} {v : Value} {l : List Nat} (h : SetW w p B v l) (hb : Below w.heap.size w w') : SetW w' p B v l := by
  have hlt := World.block_lt_of_cell? _ _ h.c0
  exact ⟨(hb.cell (p := ⟨p, 0, none⟩) hlt).trans h.c0, (hb.frozen (p := ⟨p, 0, none⟩) hlt).trans h.f0, h.row.below hb, h.rise, h.ne⟩
theorem set_not_nil (w : World) (q : Nat) : (binOp .eql 26 (.pointer (some ⟨q, 0, none⟩)) (.pointer none)).run Try.prog w = .ok (.bool false) w := by kernel_rfl
theorem place_any {w : World} {p B : Nat} {v : Value} {l : List Nat} (h : SetW w p B v l) (hl : l.length ≤ 100000) (x : Nat) :
    Calls Try.prog 27 #[.pointer (some ⟨p, 0, none⟩), .int .u32 x] w fun e w' => ∃ k, e = .returned (.tuple #[.int .i64 (k : Nat), .bool (decide (l[k]? = some x))]) ∧ At l x k ∧ w = w' := by
  have HB := Lib.hid (bin32_any v l hl x w h.row.sl h.rise)
  have hn := fun W => set_not_nil W p
  have c0 := h.c0
  obtain ⟨a, c, rfl⟩ := h.row.slice
  clear h
  go_enter Try.func27, Try.ntmps27
  go_wp2_with (go_at_call 42; refine HB.out.mono ?_; rintro e w1 ⟨k, rfl, hat, rfl⟩; have HAT := Lib.hid hat; clear hat)
  go_ret2
  exact ⟨k, rfl, HAT.out, rfl⟩
end Go.Proofs.Ytdkkcogjkeonkaa
