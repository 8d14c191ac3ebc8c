/- What the document's own Read goes by: the box of the cell that is read, the reader's state, and what holds behind each cell. -/
import Derived.Test.YtppoikhonlgcnaaSRead2
namespace Go.Proofs.Ytppoikhonlgcnaa
open Go.RowKit
open Sl (Cl Kd)
/-- A box of a cell of the call's own. -/
structure Ex (w : World) (q : Nat) (x0 x1 x2 x3 : Value) : Prop where
  c0 : w.cell? ⟨q, 0, none⟩ = some x0
  c1 : w.cell? ⟨q, 1, none⟩ = some x1
  c2 : w.cell? ⟨q, 2, none⟩ = some x2
  c3 : w.cell? ⟨q, 3, none⟩ = some x3
  f0 : w.frozen? ⟨q, 0, none⟩ = false
  f1 : w.frozen? ⟨q, 1, none⟩ = false
  f2 : w.frozen? ⟨q, 2, none⟩ = false
  f3 : w.frozen? ⟨q, 3, none⟩ = false
theorem Ex.lt {w : World} {q : Nat} {x0 x1 x2 x3 : Value} (h : Ex w q x0 x1 x2 x3) : q < w.heap.size := World.block_lt_of_cell? _ _ h.c0
theorem Ex.keep {w w' : World} {q : Nat} {x0 x1 x2 x3 : Value} (h : Ex w q x0 x1 x2 x3) (h0 : w'.heap[q]? = w.heap[q]?) : Ex w' q x0 x1 x2 x3 := by
  have c := fun o => World.cell?_of_block (w := w) (w' := w') (a := ⟨q, o, none⟩) h0
  have f := fun o => World.frozen?_of_block (w := w) (w' := w') (a := ⟨q, o, none⟩) h0
  exact ⟨(c 0).trans h.c0, (c 1).trans h.c1, (c 2).trans h.c2, (c 3).trans h.c3, (f 0).trans h.f0, (f 1).trans h.f1, (f 2).trans h.f2, (f 3).trans h.f3⟩
theorem Ex.upd {w w' : World} {q b : Nat} {x0 x1 x2 x3 : Value} (h : Ex w q x0 x1 x2 x3) (u : Upd b w w') (hb : q ≠ b) : Ex w' q x0 x1 x2 x3 := h.keep (u.block q hb)
theorem Ex.below {w w' : World} {q : Nat} {x0 x1 x2 x3 : Value} (h : Ex w q x0 x1 x2 x3) (u : Below w.heap.size w w') : Ex w' q x0 x1 x2 x3 := h.keep (u.block q h.lt)
theorem Ex.new (w : World) : Ex (w.alloc (.cells #[.string ⟨#[]⟩, .string ⟨#[]⟩, .int .u32 0, .int .u32 0] 42)) w.heap.size (.string ⟨#[]⟩) (.string ⟨#[]⟩) (.int .u32 0) (.int .u32 0) := by constructor <;> simp
theorem Ex.set (i : Nat) (v : Value) {w : World} {q : Nat} {x0 x1 x2 x3 : Value} (h : Ex w q x0 x1 x2 x3) :
    Ex (w.setCell ⟨q, i, none⟩ v) q (if i = 0 then v else x0) (if i = 1 then v else x1) (if i = 2 then v else x2) (if i = 3 then v else x3) := by
  have c : ∀ (j : Nat) (x : Value), w.cell? ⟨q, j, none⟩ = some x → (w.setCell ⟨q, i, none⟩ v).cell? ⟨q, j, none⟩ = some (if i = j then v else x) := fun j x hx => by
    by_cases hij : i = j
    · subst hij; rw [if_pos rfl]; exact World.cell?_setCell_same' _ _ _ (by rw [hx]; rfl)
    · rw [if_neg hij, World.cell?_setCell_other w ⟨q, i, none⟩ ⟨q, j, none⟩ v (ne_off hij), hx]
  exact ⟨c 0 _ h.c0, c 1 _ h.c1, c 2 _ h.c2, c 3 _ h.c3, by rw [World.frozen?_setCell, h.f0], by rw [World.frozen?_setCell, h.f1], by rw [World.frozen?_setCell, h.f2], by rw [World.frozen?_setCell, h.f3]⟩
theorem Rd.other {w : World} {b q i : Nat} {s : ByteArray} {e : Int} (h : Rd w b s e) (v : Value) (hne : b ≠ q) : Rd (w.setCell ⟨q, i, none⟩ v) b s e := h.upd ((Upd.refl q w).setCell (o := i) v) hne
theorem tk_left (s : ByteArray) (e n : Int) : (tk s e n).1.size ≤ s.size ∧ (tk s e n).2.1.size ≤ s.size := by
  unfold tk
  split
  · exact ⟨Nat.zero_le _, Nat.le_refl _⟩
  · split
    · exact ⟨Nat.zero_le _, Nat.le_refl _⟩
    · simp only [ByteArray.size_extract]; omega
theorem ky_left (s : ByteArray) (e : Int) : (kyR s e).1.size ≤ s.size ∧ (kyR s e).2.1.size ≤ s.size := by
  unfold kyR
  have h1 := tk_left s e 1
  have h2 := tk_left (tk s e 1).2.1 (tk s e 1).2.2 (Oc.val (tk s e 1).1.data.toList : Nat)
  omega
theorem vl_left (s : ByteArray) (e : Int) : (vlR s e).1.size ≤ s.size ∧ (vlR s e).2.1.size ≤ s.size := by
  unfold vlR
  have h1 := tk_left s e 2
  have h2 := tk_left (tk s e 2).2.1 (tk s e 2).2.2 (Oc.val (tk s e 2).1.data.toList : Nat)
  omega
theorem tk_val4 (s : ByteArray) (e : Int) : Oc.val (tk s e 4).1.data.toList < 4294967296 :=
  Nat.lt_of_lt_of_le (Oc.val_lt (tk s e 4).1.data.toList) (Nat.pow_le_pow_right (by omega) (tk_size s e 4))
/-- What holds of the cells and the rest behind l of them. -/
structure Got (leaf : Bool) (s0 : List UInt8) (c : Nat) (l : List Cl) (s : ByteArray) (e : Int) : Prop where
  size : s.size ≤ 5000
  good : ∀ x ∈ l, okC x ∧ x.val.length ≤ 5000
  fair : e = 0 → ∃ r, s = str r ∧ s0 = l.flatMap (Sl.shR leaf).enc ++ r ∧ ∀ x ∈ l, canR leaf x
  part : ∀ m : List Cl, m.length = c → (∀ x ∈ m, canR leaf x) → s0 = m.flatMap (Sl.shR leaf).enc → e = 0 ∧ l = m.take l.length ∧ s = str ((m.drop l.length).flatMap (Sl.shR leaf).enc)
theorem Got.start (leaf : Bool) (s0 : List UInt8) (c : Nat) (h : s0.length ≤ 5000) : Got leaf s0 c [] (str s0) 0 :=
  ⟨by rw [str_size]; exact h, fun x hx => by simp at hx, fun _ => ⟨s0, rfl, rfl, fun x hx => by simp at hx⟩, fun m _ _ h3 => ⟨rfl, rfl, by rw [h3]; rfl⟩⟩
theorem rc_bounds (leaf : Bool) (s : ByteArray) (e : Int) (h : s.size ≤ 5000) : okC (rcR leaf s e).1 ∧ (rcR leaf s e).1.val.length ≤ 5000 ∧ (rcR leaf s e).2.1.size ≤ 5000 := by
  have hk := ky_left s e
  cases leaf
  · rw [rc_kid rfl rfl]
    have h4 := tk_left (kyR s e).2.1 (kyR s e).2.2 4
    exact ⟨⟨tk_val4 _ _, show 0 < 4294967296 by decide⟩, Nat.zero_le _, by show (tk (kyR s e).2.1 (kyR s e).2.2 4).2.1.size ≤ 5000; omega⟩
  · have h1 := tk_left (kyR s e).2.1 (kyR s e).2.2 1
    by_cases hn : Oc.val (tk (kyR s e).2.1 (kyR s e).2.2 1).1.data.toList = 0
    · rw [rc_zero rfl rfl hn rfl]
      have h4 := vl_left (tk (kyR s e).2.1 (kyR s e).2.2 1).2.1 (tk (kyR s e).2.1 (kyR s e).2.2 1).2.2
      refine ⟨⟨show 0 < 4294967296 by decide, show 0 < 4294967296 by decide⟩, ?_, ?_⟩
      · show (vlR (tk (kyR s e).2.1 (kyR s e).2.2 1).2.1 (tk (kyR s e).2.1 (kyR s e).2.2 1).2.2).1.size ≤ 5000
        omega
      · show (vlR (tk (kyR s e).2.1 (kyR s e).2.2 1).2.1 (tk (kyR s e).2.1 (kyR s e).2.2 1).2.2).2.1.size ≤ 5000
        omega
    · rw [rc_more rfl rfl hn rfl rfl]
      have h4 := tk_left (tk (kyR s e).2.1 (kyR s e).2.2 1).2.1 (tk (kyR s e).2.1 (kyR s e).2.2 1).2.2 4
      have h5 := tk_left (tk (tk (kyR s e).2.1 (kyR s e).2.2 1).2.1 (tk (kyR s e).2.1 (kyR s e).2.2 1).2.2 4).2.1 (tk (tk (kyR s e).2.1 (kyR s e).2.2 1).2.1 (tk (kyR s e).2.1 (kyR s e).2.2 1).2.2 4).2.2 4
      refine ⟨⟨tk_val4 _ _, tk_val4 _ _⟩, Nat.zero_le _, ?_⟩
      show (tk (tk (tk (kyR s e).2.1 (kyR s e).2.2 1).2.1 (tk (kyR s e).2.1 (kyR s e).2.2 1).2.2 4).2.1 (tk (tk (kyR s e).2.1 (kyR s e).2.2 1).2.1 (tk (kyR s e).2.1 (kyR s e).2.2 1).2.2 4).2.2 4).2.1.size ≤ 5000
      omega
theorem drop_at {α : Type} (m : List α) (k : Nat) (h : k < m.length) : ∃ x, m[k]? = some x ∧ m.drop k = x :: m.drop (k + 1) ∧ x ∈ m :=
  ⟨m[k], List.getElem?_eq_getElem h, List.drop_eq_getElem_cons h, List.getElem_mem h⟩
/-- One cell more. -/
theorem Got.next {leaf : Bool} {s0 : List UInt8} {c : Nat} {l : List Cl} {s : ByteArray} {e : Int} (h : Got leaf s0 c l s e) (hl : l.length < c) {x : Cl} {s' : ByteArray} {e' : Int} (hx : rcR leaf s e = (x, s', e', false)) : Got leaf s0 c (l ++ [x]) s' e' := by
  have hb := rc_bounds leaf s e h.size
  rw [hx] at hb
  refine ⟨hb.2.2, ?_, ?_, ?_⟩
  · intro y hy
    rcases List.mem_append.1 hy with hy | hy
    · exact h.good y hy
    · simp at hy; subst hy; exact ⟨hb.1, hb.2.1⟩
  · intro he
    subst he
    have he0 : e = 0 := by
      cases Classical.em (e = 0) with
      | inl h1 => exact h1
      | inr h1 => exact absurd (show (rcR leaf s e).2.2.1 = 0 by rw [hx]) (rc_err leaf s e h1)
    subst he0
    obtain ⟨r, rfl, h2, h3⟩ := h.fair rfl
    obtain ⟨y, t, rfl, h5, h6⟩ := rc_good leaf r (by rw [hx]) (by rw [hx])
    rw [hx] at h6
    injection h6 with h7 h8
    injection h8 with h9 _
    subst h7
    refine ⟨t, h9, ?_, ?_⟩
    · rw [h2, Sl.flat_snoc, List.append_assoc]
    · intro z hz
      rcases List.mem_append.1 hz with hz | hz
      · exact h3 z hz
      · simp at hz; subst hz; exact h5
  · intro m hm hc hs
    obtain ⟨h1, h2, h3⟩ := h.part m hm hc hs
    obtain ⟨y, hy, hd, hym⟩ := drop_at m l.length (by omega)
    subst h1
    rw [hd, List.flatMap_cons] at h3
    rw [h3, rc_app leaf y _ (hc y hym)] at hx
    injection hx with h7 h8
    injection h8 with h9 h10
    injection h10 with h11 _
    subst h7
    refine ⟨h11.symm, ?_, ?_⟩
    · rw [List.length_append, show l.length + [y].length = l.length + 1 from rfl, Sl.take_snoc' m l.length y hy, ← h2]
    · rw [List.length_append, show l.length + [y].length = l.length + 1 from rfl]; exact h9.symm
/-- A cell that is none ends it. -/
theorem Got.none {leaf : Bool} {s0 : List UInt8} {c : Nat} {l : List Cl} {s : ByteArray} {e : Int} (h : Got leaf s0 c l s e) (hl : l.length < c) (hx : (rcR leaf s e).2.2.2 = true) (m : List Cl) (hm : m.length = c) (hc : ∀ x ∈ m, canR leaf x) (hs : s0 = m.flatMap (Sl.shR leaf).enc) : False := by
  obtain ⟨h1, h2, h3⟩ := h.part m hm hc hs
  obtain ⟨y, hy, hd, hym⟩ := drop_at m l.length (by omega)
  subst h1
  rw [hd, List.flatMap_cons] at h3
  rw [h3, rc_app leaf y _ (hc y hym)] at hx
  cases hx
theorem Canon.rest {leaf : Bool} {s : List UInt8} {c : Nat} {m : List Cl} (h : Canon leaf s c m) : s.drop (2 * c) = m.flatMap (Sl.shR leaf).enc := by
  obtain ⟨h1, h2, h3⟩ := h
  rw [h3]; unfold Sl.body
  rw [List.drop_append_of_le_length (by rw [Sl.begins_len, h1]; omega), List.drop_of_length_le (by rw [Sl.begins_len, h1]; omega), List.nil_append]
theorem Canon.size {leaf : Bool} {s : List UInt8} {c : Nat} {m : List Cl} (h : Canon leaf s c m) : 2 * c ≤ s.length := by
  obtain ⟨h1, h2, h3⟩ := h
  rw [h3, Sl.body_len, Sl.sum_eq]; omega
inductive ReadOut (leaf : Bool) (s : List UInt8) (n : Int) (w : World) (e : Ending) (w' : World) : Prop
  | bad (h : ∀ m, 0 ≤ n → ¬ Canon leaf s n.toNat m) (he : e = .returned (.tuple #[.slice none 0 0, .int .i64 4])) (hb : Below w.heap.size w w')
  | ord (l : List Cl) (h0 : 0 ≤ n) (h : Canon leaf s n.toNat l) (hr : Sl.right (Sl.shR leaf) l ≠ 0) (he : e = .returned (.tuple #[.slice none 0 0, .int .i64 (Sl.right (Sl.shR leaf) l)])) (hb : Below w.heap.size w w')
  | ok (l : List Cl) (h0 : 0 ≤ n) (h : Canon leaf s n.toNat l) (hr : Sl.right (Sl.shR leaf) l = 0) (v : Value) (he : e = .returned (.tuple #[v, .int .i64 0])) (hv : SlC w' v l) (hb : Below w.heap.size w w')
end Go.Proofs.Ytppoikhonlgcnaa
