/- Texts of one seat, merged. -/
import Derived.Test.YtpkoehnjladpoaaE03
import Derived.Test.YtpkoehnjladpoaaE02
import Derived.Test.YtpkoehnjladpoaaE04
import Derived.BigQuiet
import Derived.Deep.QuietTactic
import Derived.OwnWalk
set_option maxRecDepth 100000
set_option maxHeartbeats 4000000
set_option linter.unusedVariables false
/- Cells that stay as they were while new memory is made. -/
namespace Go.Proofs.Ytpkoehnjladpoaa
open Go.RowKit
theorem step2 {w w1 w2 : World} {B : Nat} {p0 p1 : Addr} {x0 x1 : Value} (hB : B ≤ w.heap.size) (H : w1.cell? p0 = some x0 ∧ w1.cell? p1 = some x1 ∧ Below B w w1) (hb : Below w1.heap.size w1 w2) : w2.cell? p0 = some x0 ∧ w2.cell? p1 = some x1 ∧ Below B w w2 := by
  obtain ⟨h0, h1, hq⟩ := H
  exact ⟨(hb.cell (p := p0) (World.block_lt_of_cell? _ _ h0)).trans h0, (hb.cell (p := p1) (World.block_lt_of_cell? _ _ h1)).trans h1, hq.trans (hb.mono (Nat.le_trans hB hq.size))⟩
theorem step4 {w w1 w2 : World} {B : Nat} {p0 p1 p2 p3 : Addr} {x0 x1 x2 x3 : Value} (hB : B ≤ w.heap.size) (H : w1.cell? p0 = some x0 ∧ w1.cell? p1 = some x1 ∧ w1.cell? p2 = some x2 ∧ w1.cell? p3 = some x3 ∧ Below B w w1) (hb : Below w1.heap.size w1 w2) : w2.cell? p0 = some x0 ∧ w2.cell? p1 = some x1 ∧ w2.cell? p2 = some x2 ∧ w2.cell? p3 = some x3 ∧ Below B w w2 := by
  obtain ⟨h0, h1, h2, h3, hq⟩ := H
  exact ⟨(hb.cell (p := p0) (World.block_lt_of_cell? _ _ h0)).trans h0, (hb.cell (p := p1) (World.block_lt_of_cell? _ _ h1)).trans h1, (hb.cell (p := p2) (World.block_lt_of_cell? _ _ h2)).trans h2, (hb.cell (p := p3) (World.block_lt_of_cell? _ _ h3)).trans h3, hq.trans (hb.mono (Nat.le_trans hB hq.size))⟩
theorem step6 {w w1 w2 : World} {B : Nat} {p0 p1 p2 p3 p4 p5 : Addr} {x0 x1 x2 x3 x4 x5 : Value} (hB : B ≤ w.heap.size) (H : w1.cell? p0 = some x0 ∧ w1.cell? p1 = some x1 ∧ w1.cell? p2 = some x2 ∧ w1.cell? p3 = some x3 ∧ w1.cell? p4 = some x4 ∧ w1.cell? p5 = some x5 ∧ Below B w w1) (hb : Below w1.heap.size w1 w2) : w2.cell? p0 = some x0 ∧ w2.cell? p1 = some x1 ∧ w2.cell? p2 = some x2 ∧ w2.cell? p3 = some x3 ∧ w2.cell? p4 = some x4 ∧ w2.cell? p5 = some x5 ∧ Below B w w2 := by
  obtain ⟨h0, h1, h2, h3, h4, h5, hq⟩ := H
  exact ⟨(hb.cell (p := p0) (World.block_lt_of_cell? _ _ h0)).trans h0, (hb.cell (p := p1) (World.block_lt_of_cell? _ _ h1)).trans h1, (hb.cell (p := p2) (World.block_lt_of_cell? _ _ h2)).trans h2, (hb.cell (p := p3) (World.block_lt_of_cell? _ _ h3)).trans h3, (hb.cell (p := p4) (World.block_lt_of_cell? _ _ h4)).trans h4, (hb.cell (p := p5) (World.block_lt_of_cell? _ _ h5)).trans h5, hq.trans (hb.mono (Nat.le_trans hB hq.size))⟩
theorem step8 {w w1 w2 : World} {B : Nat} {p0 p1 p2 p3 p4 p5 p6 p7 : Addr} {x0 x1 x2 x3 x4 x5 x6 x7 : Value} (hB : B ≤ w.heap.size) (H : w1.cell? p0 = some x0 ∧ w1.cell? p1 = some x1 ∧ w1.cell? p2 = some x2 ∧ w1.cell? p3 = some x3 ∧ w1.cell? p4 = some x4 ∧ w1.cell? p5 = some x5 ∧ w1.cell? p6 = some x6 ∧ w1.cell? p7 = some x7 ∧ Below B w w1) (hb : Below w1.heap.size w1 w2) : w2.cell? p0 = some x0 ∧ w2.cell? p1 = some x1 ∧ w2.cell? p2 = some x2 ∧ w2.cell? p3 = some x3 ∧ w2.cell? p4 = some x4 ∧ w2.cell? p5 = some x5 ∧ w2.cell? p6 = some x6 ∧ w2.cell? p7 = some x7 ∧ Below B w w2 := by
  obtain ⟨h0, h1, h2, h3, h4, h5, h6, h7, hq⟩ := H
  exact ⟨(hb.cell (p := p0) (World.block_lt_of_cell? _ _ h0)).trans h0, (hb.cell (p := p1) (World.block_lt_of_cell? _ _ h1)).trans h1, (hb.cell (p := p2) (World.block_lt_of_cell? _ _ h2)).trans h2, (hb.cell (p := p3) (World.block_lt_of_cell? _ _ h3)).trans h3, (hb.cell (p := p4) (World.block_lt_of_cell? _ _ h4)).trans h4, (hb.cell (p := p5) (World.block_lt_of_cell? _ _ h5)).trans h5, (hb.cell (p := p6) (World.block_lt_of_cell? _ _ h6)).trans h6, (hb.cell (p := p7) (World.block_lt_of_cell? _ _ h7)).trans h7, hq.trans (hb.mono (Nat.le_trans hB hq.size))⟩
theorem step12 {w w1 w2 : World} {B : Nat} {p0 p1 p2 p3 p4 p5 p6 p7 p8 p9 p10 p11 : Addr} {x0 x1 x2 x3 x4 x5 x6 x7 x8 x9 x10 x11 : Value} (hB : B ≤ w.heap.size) (H : w1.cell? p0 = some x0 ∧ w1.cell? p1 = some x1 ∧ w1.cell? p2 = some x2 ∧ w1.cell? p3 = some x3 ∧ w1.cell? p4 = some x4 ∧ w1.cell? p5 = some x5 ∧ w1.cell? p6 = some x6 ∧ w1.cell? p7 = some x7 ∧ w1.cell? p8 = some x8 ∧ w1.cell? p9 = some x9 ∧ w1.cell? p10 = some x10 ∧ w1.cell? p11 = some x11 ∧ Below B w w1) (hb : Below w1.heap.size w1 w2) : w2.cell? p0 = some x0 ∧ w2.cell? p1 = some x1 ∧ w2.cell? p2 = some x2 ∧ w2.cell? p3 = some x3 ∧ w2.cell? p4 = some x4 ∧ w2.cell? p5 = some x5 ∧ w2.cell? p6 = some x6 ∧ w2.cell? p7 = some x7 ∧ w2.cell? p8 = some x8 ∧ w2.cell? p9 = some x9 ∧ w2.cell? p10 = some x10 ∧ w2.cell? p11 = some x11 ∧ Below B w w2 := by
  obtain ⟨h0, h1, h2, h3, h4, h5, h6, h7, h8, h9, h10, h11, hq⟩ := H
  exact ⟨(hb.cell (p := p0) (World.block_lt_of_cell? _ _ h0)).trans h0, (hb.cell (p := p1) (World.block_lt_of_cell? _ _ h1)).trans h1, (hb.cell (p := p2) (World.block_lt_of_cell? _ _ h2)).trans h2, (hb.cell (p := p3) (World.block_lt_of_cell? _ _ h3)).trans h3, (hb.cell (p := p4) (World.block_lt_of_cell? _ _ h4)).trans h4, (hb.cell (p := p5) (World.block_lt_of_cell? _ _ h5)).trans h5, (hb.cell (p := p6) (World.block_lt_of_cell? _ _ h6)).trans h6, (hb.cell (p := p7) (World.block_lt_of_cell? _ _ h7)).trans h7, (hb.cell (p := p8) (World.block_lt_of_cell? _ _ h8)).trans h8, (hb.cell (p := p9) (World.block_lt_of_cell? _ _ h9)).trans h9, (hb.cell (p := p10) (World.block_lt_of_cell? _ _ h10)).trans h10, (hb.cell (p := p11) (World.block_lt_of_cell? _ _ h11)).trans h11, hq.trans (hb.mono (Nat.le_trans hB hq.size))⟩
end Go.Proofs.Ytpkoehnjladpoaa
/- Plain facts of bodies of cells, for the walks of Body; nothing of the program. -/
namespace Go.Proofs.Ytpkoehnjladpoaa
namespace Sl
open Oc
variable {α : Type}
def bodyR (S : Sh α) (l : List α) : List UInt8 × Int :=
  if right S l ≠ 0 then ([], right S l) else if 4072 < sum S l then ([], 14) else (body S l, 0)
theorem bodyR_bad (S : Sh α) (l : List α) (h : right S l ≠ 0) : bodyR S l = ([], right S l) := by unfold bodyR; rw [if_pos h]
theorem bodyR_full (S : Sh α) (l : List α) (h : right S l = 0) (h2 : 4072 < sum S l) : bodyR S l = ([], 14) := by unfold bodyR; rw [if_neg (by rw [h]; decide), if_pos h2]
theorem bodyR_ok (S : Sh α) (l : List α) (h : right S l = 0) (h2 : ¬ 4072 < sum S l) : bodyR S l = (body S l, 0) := by unfold bodyR; rw [if_neg (by rw [h]; decide), if_neg h2]
theorem encC_pos (c : Cl) : 1 ≤ (encC c).length := by
  unfold encC; split <;> simp only [List.length_append, big_length, encKey_len] <;> omega
theorem encK_pos (k : Kd) : 1 ≤ (encK k).length := by
  unfold encK; simp only [List.length_append, big_length, encKey_len]; omega
theorem at_le (S : Sh α) (l : List α) (k : Nat) (h : sum S l ≤ 4072) : 2 * l.length + ((l.take k).flatMap S.enc).length ≤ 4072 := by
  have h1 := sum_eq S l
  have h2 : ((l.take k).flatMap S.enc).length ≤ (l.flatMap S.enc).length := by
    conv => rhs; rw [← List.take_append_drop k l, List.flatMap_append, List.length_append]
    omega
  omega
theorem begins_at (S : Sh α) (l : List α) (k : Nat) (x : α) (h : l[k]? = some x) (n : Nat) : begins S n (l.take (k + 1)) = begins S n (l.take k) ++ big 2 (n + ((l.take k).flatMap S.enc).length) := by
  rw [take_snoc' l k x h, begins_snoc]
theorem flat_at (S : Sh α) (l : List α) (k : Nat) (x : α) (h : l[k]? = some x) : (l.take (k + 1)).flatMap S.enc = (l.take k).flatMap S.enc ++ S.enc x := by
  rw [take_snoc' l k x h, flat_snoc]
theorem u8_irr (a : UInt8) : ¬ a < a := fun h => by rw [UInt8.lt_iff_toNat_lt] at h; omega
theorem less_self : ∀ u : List UInt8, less u u = false
  | [] => rfl
  | a :: u => by simp [less, u8_irr a, less_self u]
theorem less_asym : ∀ x y : List UInt8, less x y = true → less y x = false
  | [], [], _ => rfl
  | [], _ :: _, _ => rfl
  | _ :: _, [], h => by cases h
  | a :: x, b :: y, h => by
    simp only [less, Bool.or_eq_true, decide_eq_true_eq, Bool.and_eq_true, beq_iff_eq] at h
    rcases h with h | ⟨rfl, h⟩
    · have h1 : ¬ b < a := fun h2 => by rw [UInt8.lt_iff_toNat_lt] at h h2; omega
      have h2 : ¬ b = a := fun h2 => u8_irr a (h2 ▸ h)
      simp [less, h1, h2]
    · simp [less, u8_irr a, less_asym x y h]
theorem less_tri : ∀ x y : List UInt8, less x y = false → less y x = false → x = y
  | [], [], _, _ => rfl
  | [], _ :: _, h, _ => by cases h
  | _ :: _, [], _, h => by cases h
  | a :: x, b :: y, h, k => by
    simp only [less, Bool.or_eq_false_iff, decide_eq_false_iff_not, Bool.and_eq_false_imp, beq_iff_eq] at h k
    have hab : a = b := by
      have h1 := h.1
      have h2 := k.1
      rw [UInt8.lt_iff_toNat_lt] at h1 h2
      exact UInt8.toNat_inj.1 (by omega)
    rw [hab, less_tri x y (h.2 hab) (k.2 hab.symm)]
end Sl
end Go.Proofs.Ytpkoehnjladpoaa
/- The contract of the document's own cell. -/
namespace Go.Proofs.Ytpkoehnjladpoaa
open Go.RowKit
open Sl (Cl Kd)
theorem ext_take (l : List UInt8) (n : Nat) (h : n ≤ l.length) : (str l).extract 0 n = str (l.take n) := by
  have := str_take l n
  rwa [Nat.min_eq_right h] at this
theorem big1_at (x : Int) (n : Nat) (hx : x = n) (hn : n < 256) (w : World) :
    Calls Try.prog 51 #[.int .u64 x, .int .i64 1] w fun e w' => e = .returned (.string (str (Oc.big 1 n))) ∧ Below w.heap.size w w' := big_any x n 1 hx (by omega) (by omega) (by omega) w
theorem big2_at (x : Int) (n : Nat) (hx : x = n) (hn : n < 65536) (w : World) :
    Calls Try.prog 51 #[.int .u64 x, .int .i64 2] w fun e w' => e = .returned (.string (str (Oc.big 2 n))) ∧ Below w.heap.size w w' := big_any x n 2 hx (by omega) (by omega) (by omega) w
theorem big4_at (x : Int) (n : Nat) (hx : x = n) (hn : n < 4294967296) (w : World) :
    Calls Try.prog 51 #[.int .u64 x, .int .i64 4] w fun e w' => e = .returned (.string (str (Oc.big 4 n))) ∧ Below w.heap.size w w' := big_any x n 4 hx (by omega) (by omega) (by omega) w
theorem below_drewN {B : Nat} {u v : World} (h : Below B u v) (n : Nat) : Below B u (v.drewN n) := ⟨h.os, h.tape, h.output, h.size, h.block⟩
theorem quiet_box {w : World} {x0 x1 x2 x3 : Value} {T : TypeId} (n : Nat) :
    ((w.alloc (.cells #[x0, x1, x2, x3] T)).drewN n).cell? ⟨w.heap.size, 0, none⟩ = some x0 ∧ ((w.alloc (.cells #[x0, x1, x2, x3] T)).drewN n).cell? ⟨w.heap.size, 1, none⟩ = some x1 ∧ ((w.alloc (.cells #[x0, x1, x2, x3] T)).drewN n).cell? ⟨w.heap.size, 2, none⟩ = some x2 ∧ ((w.alloc (.cells #[x0, x1, x2, x3] T)).drewN n).cell? ⟨w.heap.size, 3, none⟩ = some x3 ∧ Below w.heap.size w ((w.alloc (.cells #[x0, x1, x2, x3] T)).drewN n) :=
  ⟨by simp, by simp, by simp, by simp, below_drewN ((Below.refl _ _).alloc (Nat.le_refl _) _) n⟩
end Go.Proofs.Ytpkoehnjladpoaa
/- The contracts of the document's own Sum and right. -/
namespace Go.Proofs.Ytpkoehnjladpoaa
open Go.RowKit
open Sl (Cl Kd)
namespace Sl
/-- What the document's answer takes a cell for: a leaf's, or a branch's. -/
def shR (leaf : Bool) : Sh Cl := ⟨fun c => if leaf then encC c else encK ⟨c.key, c.chain⟩, Cl.key, fun c => if leaf then fitsC c else true⟩
theorem shR_len (leaf : Bool) (c : Cl) : ((shR leaf).enc c).length ≤ 65794 := by
  cases leaf
  · exact Nat.le_trans (encK_len ⟨c.key, c.chain⟩) (by decide)
  · exact encC_len c
end Sl
theorem shR_le (leaf : Bool) (l : List Cl) (k : Nat) (h : l.length ≤ 100000) : Sl.sum (Sl.shR leaf) (l.take k) ≤ 6579600000 := by
  have h1 := Sl.sum_take (Sl.shR leaf) l k
  have h2 := Sl.sum_le (Sl.shR leaf) 65794 (Sl.shR_len leaf) l
  omega
end Go.Proofs.Ytpkoehnjladpoaa
/- Rows of cells that the law itself makes: a leaf's cells as a branch's, and back. -/
namespace Go.Proofs.Ytpkoehnjladpoaa
open Go.RowKit
open Sl (Cl Kd)
def toK (c : Cl) : Kd := ⟨c.key, c.chain⟩
def toC (k : Kd) : Cl := ⟨k.key, [], k.page, 0⟩
def cellsC (c : Cl) : List Value := [.string (str c.key), .string (str c.val), .int .u32 c.chain, .int .u32 c.long]
def cellsK (k : Kd) : List Value := [.string (str k.key), .int .u32 k.page]
theorem info42 : (Try.prog.info? 42).map (fun i => (i.zero, i.size, i.bytes)) = some (some (.agg #[.string ByteArray.empty, .string ByteArray.empty, .int .u32 0, .int .u32 0]), 4, 40) := by kernel_rfl
theorem info47 : (Try.prog.info? 52).map (fun i => (i.zero, i.size, i.bytes)) = some (some (.agg #[.string ByteArray.empty, .int .u32 0]), 2, 24) := by kernel_rfl
theorem flat_at {α : Type} (f : α → List Value) (s : Nat) (hf : ∀ x, (f x).length = s) : ∀ (l : List α) (j i : Nat) (p : α), l[j]? = some p → i < s → (l.flatMap f)[j * s + i]? = (f p)[i]?
  | [], j, i, p, h, _ => by simp at h
  | q :: l, 0, i, p, h, hi => by
    simp at h
    subst h
    rw [List.flatMap_cons, List.getElem?_append_left (by rw [hf]; omega)]
    simp
  | q :: l, j + 1, i, p, h, hi => by
    rw [List.flatMap_cons, List.getElem?_append_right (by rw [hf, Nat.add_mul]; omega)]
    rw [show (j + 1) * s + i - (f q).length = j * s + i by rw [hf, Nat.add_mul]; omega]
    exact flat_at f s hf l j i p (by simpa using h) hi
theorem SlC.nil (w : World) : SlC w (.slice none 0 0) [] := ⟨none, 0, 0, 0, rfl, .inl rfl, fun j p h => by simp at h⟩
theorem SlK.nil (w : World) : SlK w (.slice none 0 0) [] := ⟨none, 0, 0, 0, rfl, .inl rfl, fun j p h => by simp at h⟩
theorem flat_len {α : Type} (f : α → List Value) (s : Nat) (hf : ∀ x, (f x).length = s) (l : List α) : (l.flatMap f).length = l.length * s := by
  induction l with
  | nil => simp
  | cons p l ih => rw [List.flatMap_cons, List.length_append, ih, hf, List.length_cons, Nat.add_mul]; omega
theorem cellsC_len (c : Cl) : (cellsC c).length = 4 := rfl
theorem cellsK_len (c : Kd) : (cellsK c).length = 2 := rfl
theorem SlC.own {w : World} {B : Nat} {e : TypeId} {v : Value} {l : List Cl} (h : w.ownsRow B e 4 v l.length (l.flatMap cellsC)) : SlC w v l := by
  have hw := h
  obtain ⟨_, h1⟩ := h
  rcases h1 with ⟨rfl, h0⟩ | ⟨g, cap, cur, rfl, _⟩
  · obtain rfl : l = [] := List.length_eq_zero_iff.1 h0
    exact SlC.nil w
  · refine ⟨_, g, 0, cap, rfl, .inr rfl, fun j p hj => ?_⟩
    have hlt := (List.getElem?_eq_some_iff.1 hj).1
    have c := fun i (hi : i < 4) => (hw.cellAt (j * 4 + i) (by omega)).trans (flat_at cellsC 4 cellsC_len l j i p hj hi)
    refine ⟨?_, ?_, ?_, ?_⟩
    · have := c 0 (by omega); simpa [cellsC] using this
    · have := c 1 (by omega); simpa [cellsC, Nat.add_assoc] using this
    · have := c 2 (by omega); simpa [cellsC, Nat.add_assoc] using this
    · have := c 3 (by omega); simpa [cellsC, Nat.add_assoc] using this
theorem SlK.own {w : World} {B : Nat} {e : TypeId} {v : Value} {l : List Kd} (h : w.ownsRow B e 2 v l.length (l.flatMap cellsK)) : SlK w v l := by
  have hw := h
  obtain ⟨_, h1⟩ := h
  rcases h1 with ⟨rfl, h0⟩ | ⟨g, cap, cur, rfl, _⟩
  · obtain rfl : l = [] := List.length_eq_zero_iff.1 h0
    exact SlK.nil w
  · refine ⟨_, g, 0, cap, rfl, .inr rfl, fun j p hj => ?_⟩
    have hlt := (List.getElem?_eq_some_iff.1 hj).1
    have c := fun i (hi : i < 2) => (hw.cellAt (j * 2 + i) (by omega)).trans (flat_at cellsK 2 cellsK_len l j i p hj hi)
    refine ⟨?_, ?_⟩
    · have := c 0 (by omega); simpa [cellsK] using this
    · have := c 1 (by omega); simpa [cellsK, Nat.add_assoc] using this
theorem cellsK_new (w : World) (k : Kd) (T : TypeId) : ∀ (j : Nat) u, (cellsK k)[j]? = some u →
    (w.alloc (.cells #[.string (str k.key), .int .u32 k.page] T)).cell? ((⟨w.heap.size, 0, none⟩ : Addr).add j) = some u := by
  intro j u hj
  match j, hj with
  | 0, hj => simp [cellsK] at hj; subst hj; simp [Addr.add]
  | 1, hj => simp [cellsK] at hj; subst hj; simp [Addr.add]
  | (j + 2), hj => simp [cellsK] at hj
theorem cellsC_new (w : World) (c : Cl) (T : TypeId) : ∀ (j : Nat) u, (cellsC c)[j]? = some u →
    (w.alloc (.cells #[.string (str c.key), .string (str c.val), .int .u32 c.chain, .int .u32 c.long] T)).cell? ((⟨w.heap.size, 0, none⟩ : Addr).add j) = some u := by
  intro j u hj
  match j, hj with
  | 0, hj => simp [cellsC] at hj; subst hj; simp [Addr.add]
  | 1, hj => simp [cellsC] at hj; subst hj; simp [Addr.add]
  | 2, hj => simp [cellsC] at hj; subst hj; simp [Addr.add]
  | 3, hj => simp [cellsC] at hj; subst hj; simp [Addr.add]
  | (j + 4), hj => simp [cellsC] at hj
theorem cellsK_one (k : Kd) : ∀ u ∈ cellsK k, u.oneCell' = true := by
  intro u hu
  simp [cellsK] at hu
  rcases hu with rfl | rfl <;> rfl
theorem cellsC_one (c : Cl) : ∀ u ∈ cellsC c, u.oneCell' = true := by
  intro u hu
  simp [cellsC] at hu
  rcases hu with rfl | rfl | rfl | rfl <;> rfl
/-- A row that was made. -/
def MadeK (w : World) (l : List Kd) (e : Ending) (w' : World) : Prop := ∃ v, e = .returned v ∧ SlK w' v l ∧ Below w.heap.size w w'
def MadeC (w : World) (l : List Cl) (e : Ending) (w' : World) : Prop := ∃ v, e = .returned v ∧ SlC w' v l ∧ Below w.heap.size w w'
theorem map_take_snoc {α β : Type} (f : α → β) (l : List α) (k : Nat) (x : α) (h : l[k]? = some x) : (l.take (k + 1)).map f = (l.take k).map f ++ [f x] := by
  obtain ⟨hk, he⟩ := List.getElem?_eq_some_iff.1 h
  rw [List.take_succ_eq_append_getElem hk, he, List.map_append]; rfl
set_option maxHeartbeats 2000000 in
set_option maxRecDepth 100000 in
theorem kidsOf_any (v : Value) (l : List Cl) (hll : l.length ≤ 100000) (w : World) (hv : SlC w v l) :
    Calls Try.prog 53 #[v] w (MadeK w (l.map toK)) := by
  obtain ⟨i0, hi, hz0, hz1, hz2⟩ := info_parts info47
  obtain ⟨a, b, o, c, rfl, ha, hx⟩ := hv
  have HX := Lib.hid hx
  have HA := Lib.hid ha
  clear ha hx
  go_enter Try.func53, Try.ntmps53
  go_wp2
  go_loopg [3, 8] l.length (fun n s i wr => ∃ m : List Kd, m.length ≤ l.length ∧ n = l.length - m.length ∧ i = .int .i64 m.length ∧ Hid (m = (l.take m.length).map toK) ∧ Hid (wr.ownsRow w.heap.size 52 2 s m.length (m.flatMap cellsK)) ∧ Hid (Below w.heap.size w wr))
  case atStart => exact ⟨[], Nat.zero_le _, rfl, rfl, rfl, World.ownsRow_nil _ _ _ _, Below.refl _ _⟩
  case round =>
    obtain ⟨m, hk, rfl, rfl, HM, HO, HB⟩ := hrel
    by_cases hlt : m.length < l.length
    · obtain ⟨x, hx⟩ := take_some l m.length hlt
      obtain ⟨e0, e1, e2, e3⟩ := HX.out m.length x hx
      have hblt : b < w.heap.size := World.block_lt_of_cell? _ _ e0
      have d0 := (HB.out.cell (p := ⟨b, o + m.length * 4, none⟩) hblt).trans e0
      have d1 := (HB.out.cell (p := ⟨b, o + m.length * 4 + 1, none⟩) hblt).trans e1
      have d2 := (HB.out.cell (p := ⟨b, o + m.length * 4 + 2, none⟩) hblt).trans e2
      have d3 := (HB.out.cell (p := ⟨b, o + m.length * 4 + 3, none⟩) hblt).trans e3
      obtain rfl : a = some ⟨b, o, none⟩ := by
        rcases HA.out with h | h
        · rw [h] at hlt; cases hlt
        · exact h
      have HS := Lib.hid (map_take_snoc toK l m.length x hx)
      have hBs := HB.out.size
      clear e0 e1 e2 e3 hx
      go_wp2_with (at_builtin; refine wpList_append_own _ rfl _ _ 44 rfl w.heap.size 52 i0 _ 2 24 Try.underlying44 hi hz0 hz1 hz2 rfl (by decide) _ m.length _ rfl ((HO.out.alloc _).alloc _) ⟨wr.heap.size + 1, 0, none⟩ 1 1 (cellsK (toK x)) rfl rfl ?p1 ?p2 ?p3 ?p4 ?p5 ?_)
      case p1 => exact fun _ _ h => h
      case p2 => exact cellsK_one _
      case p3 => unfold maxLen; omega
      case p4 => omega
      case p5 => omega
      intro v' w4 hown' hgrow _
      have HO4 : Hid (w4.ownsRow w.heap.size 52 2 v' (m ++ [toK x]).length ((m ++ [toK x]).flatMap cellsK)) := by
        show w4.ownsRow _ _ _ _ _ _
        rw [List.flatMap_append, List.length_append]; simpa using hown'
      have HB4 : Hid (Below w.heap.size w w4) := ((HB.out.alloc hBs _).alloc (by simp; omega) _).grown hgrow (by simp; omega) (fun g hg => (HO.out.lt g hg).1)
      clear hown' hgrow
      go_wp2
      go_roundg (l.length - (m.length + 1))
      case measure => omega
      case rel =>
        refine ⟨m ++ [toK x], by rw [List.length_append]; exact hlt, by rw [List.length_append]; rfl, by rw [List.length_append]; go_num, ?_, HO4, HB4⟩
        show _ = _
        rw [List.length_append, show m.length + [toK x].length = m.length + 1 from rfl, HS.out, ← HM.out]
    · have hkk : m.length = l.length := by omega
      have hm : m = l.map toK := by
        have := HM.out
        rw [hkk, List.take_length] at this
        exact this
      have HMM := Lib.hid hm
      have HSK := Lib.hid (SlK.own HO.out)
      clear hm hkk
      go_wp2
      go_ret
      exact ⟨_, rfl, HMM.out ▸ HSK.out, HB.out⟩
set_option maxHeartbeats 2000000 in
set_option maxRecDepth 100000 in
theorem cellsOf_any (v : Value) (l : List Kd) (hll : l.length ≤ 100000) (w : World) (hv : SlK w v l) :
    Calls Try.prog 54 #[v] w (MadeC w (l.map toC)) := by
  obtain ⟨i0, hi, hz0, hz1, hz2⟩ := info_parts info42
  obtain ⟨a, b, o, c, rfl, ha, hx⟩ := hv
  have HX := Lib.hid hx
  have HA := Lib.hid ha
  clear ha hx
  go_enter Try.func54, Try.ntmps54
  go_wp2
  go_loopg [3, 8] l.length (fun n s i wr => ∃ m : List Cl, m.length ≤ l.length ∧ n = l.length - m.length ∧ i = .int .i64 m.length ∧ Hid (m = (l.take m.length).map toC) ∧ Hid (wr.ownsRow w.heap.size 42 4 s m.length (m.flatMap cellsC)) ∧ Hid (Below w.heap.size w wr))
  case atStart => exact ⟨[], Nat.zero_le _, rfl, rfl, rfl, World.ownsRow_nil _ _ _ _, Below.refl _ _⟩
  case round =>
    obtain ⟨m, hk, rfl, rfl, HM, HO, HB⟩ := hrel
    by_cases hlt : m.length < l.length
    · obtain ⟨x, hx⟩ := take_some l m.length hlt
      obtain ⟨e0, e1⟩ := HX.out m.length x hx
      have hblt : b < w.heap.size := World.block_lt_of_cell? _ _ e0
      have d0 := (HB.out.cell (p := ⟨b, o + m.length * 2, none⟩) hblt).trans e0
      have d1 := (HB.out.cell (p := ⟨b, o + m.length * 2 + 1, none⟩) hblt).trans e1
      obtain rfl : a = some ⟨b, o, none⟩ := by
        rcases HA.out with h | h
        · rw [h] at hlt; cases hlt
        · exact h
      have HS := Lib.hid (map_take_snoc toC l m.length x hx)
      have hBs := HB.out.size
      clear e0 e1 hx
      go_wp2_with (at_builtin; refine wpList_append_own _ rfl _ _ 40 rfl w.heap.size 42 i0 _ 4 40 Try.underlying40 hi hz0 hz1 hz2 rfl (by decide) _ m.length _ rfl ((HO.out.alloc _).alloc _) ⟨wr.heap.size + 1, 0, none⟩ 1 1 (cellsC (toC x)) rfl rfl ?p1 ?p2 ?p3 ?p4 ?p5 ?_)
      case p1 => exact fun _ _ h => h
      case p2 => exact cellsC_one _
      case p3 => unfold maxLen; omega
      case p4 => omega
      case p5 => omega
      intro v' w4 hown' hgrow _
      have HO4 : Hid (w4.ownsRow w.heap.size 42 4 v' (m ++ [toC x]).length ((m ++ [toC x]).flatMap cellsC)) := by
        show w4.ownsRow _ _ _ _ _ _
        rw [List.flatMap_append, List.length_append]; simpa using hown'
      have HB4 : Hid (Below w.heap.size w w4) := ((HB.out.alloc hBs _).alloc (by simp; omega) _).grown hgrow (by simp; omega) (fun g hg => (HO.out.lt g hg).1)
      clear hown' hgrow
      go_wp2
      go_roundg (l.length - (m.length + 1))
      case measure => omega
      case rel =>
        refine ⟨m ++ [toC x], by rw [List.length_append]; exact hlt, by rw [List.length_append]; rfl, by rw [List.length_append]; go_num, ?_, HO4, HB4⟩
        show _ = _
        rw [List.length_append, show m.length + [toC x].length = m.length + 1 from rfl, HS.out, ← HM.out]
    · have hkk : m.length = l.length := by omega
      have hm : m = l.map toC := by
        have := HM.out
        rw [hkk, List.take_length] at this
        exact this
      have HMM := Lib.hid hm
      have HSK := Lib.hid (SlC.own HO.out)
      clear hm hkk
      go_wp2
      go_ret
      exact ⟨_, rfl, HMM.out ▸ HSK.out, HB.out⟩
end Go.Proofs.Ytpkoehnjladpoaa
/- Where a row of cells is cut in two. -/
namespace Go.Proofs.Ytpkoehnjladpoaa.Sl
variable {α β : Type}
def dif (S : Sh α) (l : List α) (i : Nat) : Nat := ((2 * sum S (l.take i) : Nat) - (sum S l : Nat) : Int).natAbs
def best (d : Nat → Nat) : Nat → Nat × Nat
  | 0 => (0, 0)
  | 1 => (1, d 1)
  | k + 2 => if d (k + 2) < (best d (k + 1)).2 then (k + 2, d (k + 2)) else best d (k + 1)
theorem best_bd (d : Nat → Nat) : ∀ k, 1 ≤ k → 1 ≤ (best d k).1 ∧ (best d k).1 ≤ k
  | 0, h => absurd h (by decide)
  | 1, _ => ⟨Nat.le_refl _, Nat.le_refl _⟩
  | k + 2, _ => by
    unfold best
    have ih := best_bd d (k + 1) (Nat.succ_le_succ (Nat.zero_le _))
    split
    · exact ⟨Nat.succ_le_succ (Nat.zero_le _), Nat.le_refl _⟩
    · exact ⟨ih.1, Nat.le_succ_of_le ih.2⟩
theorem best_one (d : Nat → Nat) : best d 1 = (1, d 1) := rfl
theorem best_less (d : Nat → Nat) (k : Nat) (hk : 1 ≤ k) (h : d (k + 1) < (best d k).2) : best d (k + 1) = (k + 1, d (k + 1)) := by
  obtain ⟨k, rfl⟩ : ∃ j, k = j + 1 := ⟨k - 1, by omega⟩
  show (if _ then _ else _) = _
  rw [if_pos h]
theorem best_keep (d : Nat → Nat) (k : Nat) (hk : 1 ≤ k) (h : ¬ d (k + 1) < (best d k).2) : best d (k + 1) = best d k := by
  obtain ⟨k, rfl⟩ : ∃ j, k = j + 1 := ⟨k - 1, by omega⟩
  show (if _ then _ else _) = _
  rw [if_neg h]
/-- The two numbers that the walk keeps: behind j cuts looked at. -/
def st (S : Sh α) (l : List α) (j : Nat) : Nat × Nat := if j = 0 then (l.length, 0) else best (dif S l) j
theorem st_zero (S : Sh α) (l : List α) : st S l 0 = (l.length, 0) := rfl
theorem st_first (S : Sh α) (l : List α) : st S l 1 = (1, dif S l 1) := rfl
theorem st_less (S : Sh α) (l : List α) (j : Nat) (hj : j ≠ 0) (h : dif S l (j + 1) < (st S l j).2) : st S l (j + 1) = (j + 1, dif S l (j + 1)) := by
  unfold st at h ⊢
  rw [if_neg hj] at h
  rw [if_neg (Nat.succ_ne_zero j)]
  exact best_less _ j (by omega) h
theorem st_keep (S : Sh α) (l : List α) (j : Nat) (hj : j ≠ 0) (h : ¬ dif S l (j + 1) < (st S l j).2) : st S l (j + 1) = st S l j := by
  unfold st at h ⊢
  rw [if_neg hj] at h
  rw [if_neg (Nat.succ_ne_zero j), if_neg hj]
  exact best_keep _ j (by omega) h
def cutAt (S : Sh α) (l : List α) : Nat := if l.length < 2 then l.length else (best (dif S l) (l.length - 1)).1
theorem cutAt_le (S : Sh α) (l : List α) : cutAt S l ≤ l.length := by
  unfold cutAt
  split
  · exact Nat.le_refl _
  · have := (best_bd (dif S l) (l.length - 1) (by omega)).2; omega
theorem cutAt_pos (S : Sh α) (l : List α) (h : 2 ≤ l.length) : 1 ≤ cutAt S l ∧ cutAt S l < l.length := by
  unfold cutAt
  rw [if_neg (by omega)]
  have := best_bd (dif S l) (l.length - 1) (by omega)
  omega
theorem cutAt_st (S : Sh α) (l : List α) : cutAt S l = (st S l (l.length - 1)).1 := by
  unfold cutAt st
  by_cases h : l.length < 2
  · rw [if_pos h, if_pos (by omega)]
  · rw [if_neg h, if_neg (by omega)]
theorem sum_app (S : Sh α) (l m : List α) : sum S (l ++ m) = sum S l + sum S m := by
  unfold sum; rw [List.map_append, List.sum_append]
theorem sum_cut (S : Sh α) (l : List α) (i : Nat) : sum S (l.take i) + sum S (l.drop i) = sum S l := by
  rw [← sum_app, List.take_append_drop]
end Go.Proofs.Ytpkoehnjladpoaa.Sl
/- Cells that stay as they were: what stands last. -/
namespace Go.Proofs.Ytpkoehnjladpoaa
open Go.RowKit
theorem last4 {w w1 : World} {B : Nat} {p0 p1 p2 p3 : Addr} {x0 x1 x2 x3 : Value} (H : w1.cell? p0 = some x0 ∧ w1.cell? p1 = some x1 ∧ w1.cell? p2 = some x2 ∧ w1.cell? p3 = some x3 ∧ Below B w w1) : Below B w w1 := H.2.2.2.2
theorem last8 {w w1 : World} {B : Nat} {p0 p1 p2 p3 p4 p5 p6 p7 : Addr} {x0 x1 x2 x3 x4 x5 x6 x7 : Value} (H : w1.cell? p0 = some x0 ∧ w1.cell? p1 = some x1 ∧ w1.cell? p2 = some x2 ∧ w1.cell? p3 = some x3 ∧ w1.cell? p4 = some x4 ∧ w1.cell? p5 = some x5 ∧ w1.cell? p6 = some x6 ∧ w1.cell? p7 = some x7 ∧ Below B w w1) : Below B w w1 := H.2.2.2.2.2.2.2.2
end Go.Proofs.Ytpkoehnjladpoaa
