/- A set of numbers: its box; where a number stands in it, how many, what stands at a place, above a number. -/
import Derived.Test.YtdkkcogjkeonkaaTxRow
import Derived.Test.YtdkkcogjkeonkaaPSet
import Derived.Test.YtdkkcogjkeonkaaShelf
import Derived.Deep.DeepCutAuto
set_option maxRecDepth 100000
set_option maxHeartbeats 4000000
set_option linter.unusedVariables false
namespace Go.Proofs.Ytdkkcogjkeonkaa
open Go.RowKit Go.Sort
open Tx (Rise Ord above)
abbrev eV : Nat → Value := fun x => .int .u32 x
def vlt (x y : Nat) : Bool := decide (x < y)
theorem vord : Ord vlt where
  irr x := decide_eq_false (Nat.lt_irrefl x)
  tr h1 h2 := decide_eq_true (Nat.lt_trans (of_decide_eq_true h1) (of_decide_eq_true h2))
  tri h1 h2 := Nat.le_antisymm (Nat.not_lt.1 (of_decide_eq_false h2)) (Nat.not_lt.1 (of_decide_eq_false h1))
theorem infoV : (Try.prog.info? 24).map (fun i => (i.zero, i.size, i.bytes)) = some (some (.int .u32 0), 1, 4) := by kernel_rfl
abbrev SlV := @SlP Nat eV
abbrev RowV := @RowP Nat eV 24
theorem uxBin_any (v : Value) (l : List Nat) (hl : l.length ≤ 100000) (x : Nat) (w : World) (hv : SlV w v l) (hr : Rise vlt l) :
    Calls Try.prog 42 #[v, .int .u32 x] w fun e w' => ∃ p, e = .returned (.tuple #[.int .i64 (p : Nat), .bool (decide (l[p]? = some x))]) ∧ Tx.At vlt l x p ∧ ∃ q, w' = w.drewN q := by
  refine (bin32_any v l hl x w hv (fun i j a b hij ha hb => ?_)).mono ?_
  · have h1 := (List.getElem?_eq_some_iff.1 ha).1
    have h2 := (List.getElem?_eq_some_iff.1 hb).1
    have := List.pairwise_iff_getElem.1 hr i j h1 h2 hij
    rw [(List.getElem?_eq_some_iff.1 ha).2, (List.getElem?_eq_some_iff.1 hb).2] at this
    exact of_decide_eq_true this
  · rintro e w' ⟨p, he, hat, rfl⟩
    exact ⟨p, he, ⟨hat.le, fun m y hm hy => decide_eq_true (hat.low m y hm hy), fun m y hm hy => decide_eq_false (Nat.not_lt.2 (hat.high m y hm hy))⟩, 0, rfl⟩
/-- A set's box: a rising row of its own. -/
structure SetV (w : World) (p B : Nat) (v : Value) (l : List Nat) : Prop where
  c0 : w.cell? ⟨p, 0, none⟩ = some v
  f0 : w.frozen? ⟨p, 0, none⟩ = false
  row : RowV w B v l
  rise : Rise vlt l
  ne : v.ownBlock ≠ some p
theorem SetV.below {w w' : World} {p B : Nat} {v : Value} {l : List Nat} (h : SetV w p B v l) (hb : Below w.heap.size w w') : SetV w' p B v l := by
  have hlt := World.block_lt_of_cell? _ _ h.c0
  exact ⟨(hb.cell (p := ⟨p, 0, none⟩) hlt).trans h.c0, (hb.frozen (p := ⟨p, 0, none⟩) hlt).trans h.f0, h.row.below hb, h.rise, h.ne⟩
theorem below_drewV {B : Nat} {w w' : World} (h : Below B w w') (q : Nat) : Below B w (w'.drewN q) := ⟨h.os, h.tape, h.output, h.size, h.block⟩
theorem SetV.drewN {w : World} {p B : Nat} {v : Value} {l : List Nat} (h : SetV w p B v l) (q : Nat) : SetV (w.drewN q) p B v l := h.below (below_drewV (Below.refl _ w) q)
theorem setV_not_nil (w : World) (q : Nat) : (binOp .eql 26 (.pointer (some ⟨q, 0, none⟩)) (.pointer none)).run Try.prog w = .ok (.bool false) w := by kernel_rfl
theorem uxPlace_any {w : World} {p B : Nat} {v : Value} {l : List Nat} (h : SetV w p B v l) (hl : l.length ≤ 100000) (x : Nat) :
    Calls Try.prog 27 #[.pointer (some ⟨p, 0, none⟩), .int .u32 x] w fun e w' => ∃ k, e = .returned (.tuple #[.int .i64 (k : Nat), .bool (decide (l[k]? = some x))]) ∧ Tx.At vlt l x k ∧ ∃ q, w' = w.drewN q := by
  have HB := Lib.hid (uxBin_any v l hl x w h.row.sl h.rise)
  have hn := fun W => setV_not_nil W p
  have c0 := h.c0
  obtain ⟨a, c, rfl⟩ := h.row.slice
  clear h
  go_enter Try.func27, Try.ntmps27
  go_wp2_with (go_at_call 42; refine HB.out.mono ?_; rintro e w1 ⟨k, rfl, hat, q, rfl⟩; have HAT := Lib.hid hat; clear hat)
  go_ret2
  exact ⟨k, rfl, HAT.out, q, rfl⟩
theorem uxLen_any {w : World} {p B : Nat} {v : Value} {l : List Nat} (h : SetV w p B v l) :
    Calls Try.prog 14 #[.pointer (some ⟨p, 0, none⟩)] w fun e w' => e = .returned (.int .i64 (l.length : Nat)) ∧ w = w' := by
  have hn := fun W => setV_not_nil W p
  have c0 := h.c0
  obtain ⟨a, c, rfl⟩ := h.row.slice
  clear h
  go_enter Try.func14, Try.ntmps14
  go_wp2
  go_ret
  exact ⟨rfl, rfl⟩
/-- What stands at a place, if it is one. -/
def atV (l : List Nat) (k : Int) : Nat × Bool := if 0 ≤ k ∧ k < l.length then ((l[k.toNat]?).getD 0, true) else (0, false)
theorem uxAt_any {w : World} {p B : Nat} {v : Value} {l : List Nat} (h : SetV w p B v l) (k : Int) :
    Calls Try.prog 30 #[.pointer (some ⟨p, 0, none⟩), .int .i64 k] w fun e w' => e = .returned (.tuple #[.int .u32 (atV l k).1, .bool (atV l k).2]) ∧ w = w' := by
  have HL := Lib.hid (uxLen_any h)
  have c0 := h.c0
  have HS := Lib.hid h.row.sl
  obtain ⟨a, c, rfl⟩ := h.row.slice
  clear h
  have HQ : Hid (atV l k = if 0 ≤ k ∧ k < l.length then ((l[k.toNat]?).getD 0, true) else (0, false)) := rfl
  generalize atV l k = r at HQ ⊢
  by_cases h0 : 0 ≤ k
  · have i0 : ¬ k < 0 := by omega
    by_cases h1 : k < l.length
    · obtain ⟨n, rfl⟩ := Int.eq_ofNat_of_zero_le h0
      have hn : n < l.length := by omega
      have hy : l[n]? = some l[n] := List.getElem?_eq_getElem hn
      have hr : r = (l[n], true) := by rw [HQ.out, if_pos ⟨h0, h1⟩, Int.toNat_natCast, hy]; rfl
      subst hr
      obtain ⟨a', b, o, c', he, ha, hx⟩ := HS.out
      obtain rfl : a = a' := by cases he; rfl
      obtain rfl : a = some ⟨b, o, none⟩ := ha.resolve_left (by intro h; rw [h] at hn; cases hn)
      have d0 := hx n _ hy
      generalize l[n] = y at d0 ⊢
      have i1 : ¬ (l.length : Int) ≤ (n : Int) := by omega
      clear HQ he ha hx hy
      go_enter Try.func30, Try.ntmps30
      go_wp2_with (go_at_call 14; refine HL.out.mono ?_; rintro e w1 ⟨rfl, rfl⟩)
      go_ret2
      exact ⟨rfl, rfl⟩
    · have hr : r = (0, false) := by rw [HQ.out, if_neg (fun h => h1 h.2)]
      subst hr
      have i1 : (l.length : Int) ≤ k := by omega
      clear HQ h1
      go_enter Try.func30, Try.ntmps30
      go_wp2_with (go_at_call 14; refine HL.out.mono ?_; rintro e w1 ⟨rfl, rfl⟩)
      go_ret2
      exact ⟨rfl, rfl⟩
  · have hr : r = (0, false) := by rw [HQ.out, if_neg (fun h => h0 h.1)]
    subst hr
    have i0 : k < 0 := by omega
    clear HQ h0
    go_enter Try.func30, Try.ntmps30
    go_wp2
    go_ret2
    exact ⟨rfl, rfl⟩
/-- The first of a row, if it has one. -/
def fstV (l : List Nat) : Nat × Bool := match l with | [] => (0, false) | x :: _ => (x, true)
theorem fstV_drop (l : List Nat) (n : Nat) : atV l n = fstV (l.drop n) := by
  unfold atV
  by_cases h : n < l.length
  · rw [if_pos ⟨by omega, by omega⟩, Int.toNat_natCast, List.drop_eq_getElem_cons h, List.getElem?_eq_getElem h]; rfl
  · rw [if_neg (by omega), List.drop_eq_nil_of_le (by omega)]; rfl
theorem uxLeast_any {w : World} {p B : Nat} {v : Value} {l : List Nat} (h : SetV w p B v l) :
    Calls Try.prog 12 #[.pointer (some ⟨p, 0, none⟩)] w fun e w' => e = .returned (.tuple #[.int .u32 (fstV l).1, .bool (fstV l).2]) ∧ w = w' := by
  have HA := Lib.hid (uxAt_any h 0)
  have e0 : atV l 0 = fstV l := fstV_drop l 0
  rw [e0] at HA
  clear h e0
  generalize fstV l = r at HA ⊢
  go_enter Try.func12, Try.ntmps12
  go_wp2_with (go_at_call 30; refine HA.out.mono ?_; rintro e w1 ⟨rfl, rfl⟩)
  go_ret2
  exact ⟨rfl, rfl⟩
end Go.Proofs.Ytdkkcogjkeonkaa
