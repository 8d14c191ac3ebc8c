/- Texts of one seat, merged. -/
import Derived.Test.YtemfbkelenaaeaaGreatB14
import Derived.Test.YtemfbkelenaaeaaGreatB09
import Derived.Test.YtemfbkelenaaeaaGreatB04
import Derived.Test.YtemfbkelenaaeaaGreatB02
import Derived.Deep.DeepCutAuto
import Derived.Deep.RegionHeld3
set_option maxRecDepth 100000
set_option maxHeartbeats 4000000
set_option linter.unusedVariables false
/- What a codec's Read answers, and the bodies that are rows of cells. -/
namespace Go.Proofs.YtemfbkelenaaeaaGreat
open Go.RowKit
open Sl (Cl Kd)
theorem str_inj {a b : List UInt8} (h : str a = str b) : a = b := by
  have := congrArg (fun x : ByteArray => x.data.toList) h
  exact this
theorem gc_of_rc {s : ByteArray} {x : Cl} {r : ByteArray} (h : rcR true s 0 = (x, r, 0, false)) : gcR s 0 = (x, r, 0) := by
  by_cases hn : Oc.val (tk (kyR s 0).2.1 (kyR s 0).2.2 1).1.data.toList = 0
  · rw [rc_zero rfl rfl hn rfl] at h
    unfold gcR
    simp only
    rw [if_pos hn]
    injection h with h1 h
    injection h with h2 h
    injection h with h3 h
    rw [if_neg (by rw [h3]; simp), h1]
    exact Prod.ext rfl (Prod.ext h2 h3)
  · rw [rc_more rfl rfl hn rfl rfl] at h
    injection h with h1 h
    injection h with h2 h
    injection h with h3 h4
    have h5 := of_decide_eq_false h4
    unfold gcR
    simp only
    rw [if_neg hn]
    have hn1 : Oc.val (tk (kyR s 0).2.1 (kyR s 0).2.2 1).1.data.toList = 1 := by omega
    have hc : Oc.val (tk (tk (kyR s 0).2.1 (kyR s 0).2.2 1).2.1 (tk (kyR s 0).2.1 (kyR s 0).2.2 1).2.2 4).1.data.toList ≠ 0 := by omega
    rw [if_pos hn1, if_neg hc, if_neg (by rw [h3]; simp), h1]
    exact Prod.ext rfl (Prod.ext h2 h3)
theorem rc_of_gc {s : ByteArray} (h : (gcR s 0).2.2 = 0) : rcR true s 0 = ((gcR s 0).1, (gcR s 0).2.1, 0, false) := by
  by_cases hn : Oc.val (tk (kyR s 0).2.1 (kyR s 0).2.2 1).1.data.toList = 0
  · rw [rc_zero rfl rfl hn rfl]
    unfold gcR at h ⊢
    simp only at h ⊢
    rw [if_pos hn] at h ⊢
    by_cases hv : (vlR (tk (kyR s 0).2.1 (kyR s 0).2.2 1).2.1 (tk (kyR s 0).2.1 (kyR s 0).2.2 1).2.2).2.2 ≠ 0
    · rw [if_pos hv] at h; exact absurd h hv
    · rw [if_neg hv] at h ⊢
      exact Prod.ext rfl (Prod.ext rfl (Prod.ext h rfl))
  · rw [rc_more rfl rfl hn rfl rfl]
    unfold gcR at h ⊢
    simp only at h ⊢
    rw [if_neg hn] at h ⊢
    by_cases hn1 : Oc.val (tk (kyR s 0).2.1 (kyR s 0).2.2 1).1.data.toList = 1
    · rw [if_pos hn1] at h ⊢
      by_cases hc : Oc.val (tk (tk (kyR s 0).2.1 (kyR s 0).2.2 1).2.1 (tk (kyR s 0).2.1 (kyR s 0).2.2 1).2.2 4).1.data.toList = 0
      · rw [if_pos hc, if_pos (failR_ne _)] at h; exact absurd h (failR_ne _)
      · rw [if_neg hc] at h ⊢
        by_cases hv : (tk (tk (tk (kyR s 0).2.1 (kyR s 0).2.2 1).2.1 (tk (kyR s 0).2.1 (kyR s 0).2.2 1).2.2 4).2.1 (tk (tk (kyR s 0).2.1 (kyR s 0).2.2 1).2.1 (tk (kyR s 0).2.1 (kyR s 0).2.2 1).2.2 4).2.2 4).2.2 ≠ 0
        · rw [if_pos hv] at h; exact absurd h hv
        · rw [if_neg hv] at h ⊢
          exact Prod.ext rfl (Prod.ext rfl (Prod.ext h (by simp [hn1, hc])))
    · rw [if_neg hn1] at h; exact absurd h (failR_ne _)
theorem fin_zero {s : ByteArray} {e : Int} (h : fin s e = 0) : e = 0 ∧ s.size = 0 := by
  unfold fin at h
  by_cases hh : e = 0 ∧ 0 < s.size
  · rw [if_pos hh] at h; cases h
  · rw [if_neg hh] at h
    exact ⟨h, by omega⟩
theorem fin_nil : fin (str []) 0 = 0 := rfl
theorem size_nil {s : ByteArray} (h : s.size = 0) : s = str [] := by
  apply ByteArray.ext
  exact Array.eq_empty_of_size_eq_zero h
theorem rdC_good (p : List UInt8) (h : (rdC (str p)).2 = 0) : canC (rdC (str p)).1 ∧ p = Sl.encC (rdC (str p)).1 := by
  unfold rdC at h ⊢
  simp only at h ⊢
  by_cases hf : fin (gcR (str p) 0).2.1 (gcR (str p) 0).2.2 = 0
  · rw [if_pos hf]
    obtain ⟨h1, h2⟩ := fin_zero hf
    have h3 := rc_of_gc h1
    obtain ⟨x, r, h4, h5, h6⟩ := rc_good true p (by rw [h3]) (by rw [h3])
    rw [h3] at h6
    injection h6 with h7 h8
    injection h8 with h9 _
    have hr := str_inj (h9.symm.trans (size_nil h2))
    subst hr
    simp only
    rw [h7]
    rw [List.append_nil] at h4
    exact ⟨h5, h4⟩
  · rw [if_neg hf] at h; exact absurd h hf
theorem rdC_app (x : Cl) (h : canC x) : rdC (str (Sl.encC x)) = (x, 0) := by
  have h1 := rc_app true x [] h
  rw [List.append_nil] at h1
  have h2 := gc_of_rc (s := str (Sl.encC x)) h1
  unfold rdC
  simp only
  rw [h2]
  simp only
  rw [if_pos fin_nil]
theorem gk_rc (s : ByteArray) : rcR false s 0 = (⟨(kyR s 0).1.data.toList, [], Oc.val (tk (kyR s 0).2.1 (kyR s 0).2.2 4).1.data.toList, 0⟩, (tk (kyR s 0).2.1 (kyR s 0).2.2 4).2.1, (tk (kyR s 0).2.1 (kyR s 0).2.2 4).2.2, false) := rc_kid rfl rfl
theorem gk_zero {s : ByteArray} (h : (gkR s 0).2.2 = 0) : rcR false s 0 = (toC (gkR s 0).1, (gkR s 0).2.1, 0, false) := by
  rw [gk_rc]
  unfold gkR at h ⊢
  simp only at h ⊢
  by_cases hv : (tk (kyR s 0).2.1 (kyR s 0).2.2 4).2.2 ≠ 0
  · rw [if_pos hv] at h; exact absurd h hv
  · rw [if_neg hv] at h ⊢
    exact Prod.ext rfl (Prod.ext rfl (Prod.ext h rfl))
theorem gk_of_rc {s : ByteArray} {k : Kd} {r : ByteArray} (h : rcR false s 0 = (toC k, r, 0, false)) : gkR s 0 = (k, r, 0) := by
  rw [gk_rc] at h
  injection h with h1 h
  injection h with h2 h
  injection h with h3 _
  unfold gkR
  simp only
  rw [if_neg (by rw [h3]; simp)]
  unfold toC at h1
  injection h1 with a1 _ a3 _
  exact Prod.ext (by rw [a1, a3]) (Prod.ext h2 h3)
theorem rdK_good (p : List UInt8) (h : (rdK (str p)).2 = 0) : canK (rdK (str p)).1 ∧ p = Sl.encK (rdK (str p)).1 := by
  unfold rdK at h ⊢
  simp only at h ⊢
  by_cases hf : fin (gkR (str p) 0).2.1 (gkR (str p) 0).2.2 = 0
  · rw [if_pos hf]
    obtain ⟨h1, h2⟩ := fin_zero hf
    have h3 := gk_zero h1
    obtain ⟨x, r, h4, h5, h6⟩ := rc_good false p (by rw [h3]) (by rw [h3])
    rw [h3] at h6
    injection h6 with h7 h8
    injection h8 with h9 _
    have hr := str_inj (h9.symm.trans (size_nil h2))
    subst hr
    rw [List.append_nil] at h4
    rw [← h7] at h4 h5
    exact ⟨⟨h5.1, h5.2.1⟩, h4⟩
  · rw [if_neg hf] at h; exact absurd h hf
theorem rdK_app (x : Kd) (h : canK x) : rdK (str (Sl.encK x)) = (x, 0) := by
  have h1 := rc_app false (toC x) [] ⟨h.1, h.2, rfl, rfl⟩
  rw [List.append_nil] at h1
  have h2 := gk_of_rc (s := str (Sl.encK x)) h1
  unfold rdK
  simp only
  rw [h2]
  simp only
  rw [if_pos fin_nil]
theorem flat_one (leaf : Bool) : ∀ (l m : List Cl) (r t : List UInt8), (∀ x ∈ l, canR leaf x) → (∀ x ∈ m, canR leaf x) → l.length = m.length → l.flatMap (Sl.shR leaf).enc ++ r = m.flatMap (Sl.shR leaf).enc ++ t → l = m ∧ r = t
  | [], [], r, t, _, _, _, h => ⟨rfl, by simpa using h⟩
  | [], _ :: _, _, _, _, _, h, _ => by cases h
  | _ :: _, [], _, _, _, _, h, _ => by cases h
  | x :: l, y :: m, r, t, hl, hm, hlen, h => by
    rw [List.flatMap_cons, List.flatMap_cons, List.append_assoc, List.append_assoc] at h
    have h1 := rc_app leaf x (l.flatMap (Sl.shR leaf).enc ++ r) (hl x (by simp))
    rw [h, rc_app leaf y _ (hm y (by simp))] at h1
    injection h1 with h2 h3
    injection h3 with h4 _
    obtain ⟨h5, h6⟩ := flat_one leaf l m r t (fun z hz => hl z (by simp [hz])) (fun z hz => hm z (by simp [hz])) (by simpa using hlen) (str_inj h4).symm
    exact ⟨by rw [h2, h5], h6⟩
/-- The body is that of the cells. -/
def Canon (leaf : Bool) (s : List UInt8) (c : Nat) (l : List Cl) : Prop := l.length = c ∧ (∀ x ∈ l, canR leaf x) ∧ s = Sl.body (Sl.shR leaf) l
theorem Canon.unique {leaf : Bool} {s : List UInt8} {c : Nat} {l m : List Cl} (h : Canon leaf s c l) (k : Canon leaf s c m) : l = m := by
  obtain ⟨h1, h2, h3⟩ := h
  obtain ⟨k1, k2, k3⟩ := k
  rw [h3] at k3
  unfold Sl.body at k3
  have hb : (Sl.begins (Sl.shR leaf) (2 * l.length) l).length = (Sl.begins (Sl.shR leaf) (2 * m.length) m).length := by rw [Sl.begins_len, Sl.begins_len, h1, k1]
  have := List.append_inj_right k3 hb
  exact (flat_one leaf l m [] [] h2 k2 (h1.trans k1.symm) (by rw [List.append_nil, List.append_nil]; exact this)).1
end Go.Proofs.YtemfbkelenaaeaaGreat
/- What the document's own Read goes by: the box of the cell that is read, the reader's state, and what holds behind each cell. -/
namespace Go.Proofs.YtemfbkelenaaeaaGreat
open Go.RowKit
open Sl (Cl Kd)
/-- A box of a cell of the call's own. -/
structure Ex (w : World) (q : Nat) (x0 x1 x2 x3 : Value) : Prop where
  c0 : w.cell? ⟨q, 0, none⟩ = some x0
  c1 : w.cell? ⟨q, 1, none⟩ = some x1
  c2 : w.cell? ⟨q, 2, none⟩ = some x2
  c3 : w.cell? ⟨q, 3, none⟩ = some x3
  f0 : w.frozen? ⟨q, 0, none⟩ = false
  f1 : w.frozen? ⟨q, 1, none⟩ = false
  f2 : w.frozen? ⟨q, 2, none⟩ = false
  f3 : w.frozen? ⟨q, 3, none⟩ = false
theorem Ex.lt {w : World} {q : Nat} {x0 x1 x2 x3 : Value} (h : Ex w q x0 x1 x2 x3) : q < w.heap.size := World.block_lt_of_cell? _ _ h.c0
theorem Ex.keep {w w' : World} {q : Nat} {x0 x1 x2 x3 : Value} (h : Ex w q x0 x1 x2 x3) (h0 : w'.heap[q]? = w.heap[q]?) : Ex w' q x0 x1 x2 x3 := by
  have c := fun o => World.cell?_of_block (w := w) (w' := w') (a := ⟨q, o, none⟩) h0
  have f := fun o => World.frozen?_of_block (w := w) (w' := w') (a := ⟨q, o, none⟩) h0
  exact ⟨(c 0).trans h.c0, (c 1).trans h.c1, (c 2).trans h.c2, (c 3).trans h.c3, (f 0).trans h.f0, (f 1).trans h.f1, (f 2).trans h.f2, (f 3).trans h.f3⟩
theorem Ex.upd {w w' : World} {q b : Nat} {x0 x1 x2 x3 : Value} (h : Ex w q x0 x1 x2 x3) (u : Upd b w w') (hb : q ≠ b) : Ex w' q x0 x1 x2 x3 := h.keep (u.block q hb)
theorem Ex.below {w w' : World} {q : Nat} {x0 x1 x2 x3 : Value} (h : Ex w q x0 x1 x2 x3) (u : Below w.heap.size w w') : Ex w' q x0 x1 x2 x3 := h.keep (u.block q h.lt)
theorem Ex.new (w : World) : Ex (w.alloc (.cells #[.string ⟨#[]⟩, .string ⟨#[]⟩, .int .u32 0, .int .u32 0] 52)) w.heap.size (.string ⟨#[]⟩) (.string ⟨#[]⟩) (.int .u32 0) (.int .u32 0) := by constructor <;> simp
theorem Ex.set (i : Nat) (v : Value) {w : World} {q : Nat} {x0 x1 x2 x3 : Value} (h : Ex w q x0 x1 x2 x3) :
    Ex (w.setCell ⟨q, i, none⟩ v) q (if i = 0 then v else x0) (if i = 1 then v else x1) (if i = 2 then v else x2) (if i = 3 then v else x3) := by
  have c : ∀ (j : Nat) (x : Value), w.cell? ⟨q, j, none⟩ = some x → (w.setCell ⟨q, i, none⟩ v).cell? ⟨q, j, none⟩ = some (if i = j then v else x) := fun j x hx => by
    by_cases hij : i = j
    · subst hij; rw [if_pos rfl]; exact World.cell?_setCell_same' _ _ _ (by rw [hx]; rfl)
    · rw [if_neg hij, World.cell?_setCell_other w ⟨q, i, none⟩ ⟨q, j, none⟩ v (ne_off hij), hx]
  exact ⟨c 0 _ h.c0, c 1 _ h.c1, c 2 _ h.c2, c 3 _ h.c3, by rw [World.frozen?_setCell, h.f0], by rw [World.frozen?_setCell, h.f1], by rw [World.frozen?_setCell, h.f2], by rw [World.frozen?_setCell, h.f3]⟩
theorem Rd.other {w : World} {b q i : Nat} {s : ByteArray} {e : Int} (h : Rd w b s e) (v : Value) (hne : b ≠ q) : Rd (w.setCell ⟨q, i, none⟩ v) b s e := h.upd ((Upd.refl q w).setCell (o := i) v) hne
theorem tk_left (s : ByteArray) (e n : Int) : (tk s e n).1.size ≤ s.size ∧ (tk s e n).2.1.size ≤ s.size := by
  unfold tk
  split
  · exact ⟨Nat.zero_le _, Nat.le_refl _⟩
  · split
    · exact ⟨Nat.zero_le _, Nat.le_refl _⟩
    · simp only [ByteArray.size_extract]; omega
theorem ky_left (s : ByteArray) (e : Int) : (kyR s e).1.size ≤ s.size ∧ (kyR s e).2.1.size ≤ s.size := by
  unfold kyR
  have h1 := tk_left s e 1
  have h2 := tk_left (tk s e 1).2.1 (tk s e 1).2.2 (Oc.val (tk s e 1).1.data.toList : Nat)
  omega
theorem vl_left (s : ByteArray) (e : Int) : (vlR s e).1.size ≤ s.size ∧ (vlR s e).2.1.size ≤ s.size := by
  unfold vlR
  have h1 := tk_left s e 2
  have h2 := tk_left (tk s e 2).2.1 (tk s e 2).2.2 (Oc.val (tk s e 2).1.data.toList : Nat)
  omega
theorem tk_val4 (s : ByteArray) (e : Int) : Oc.val (tk s e 4).1.data.toList < 4294967296 :=
  Nat.lt_of_lt_of_le (Oc.val_lt (tk s e 4).1.data.toList) (Nat.pow_le_pow_right (by omega) (tk_size s e 4))
/-- What holds of the cells and the rest behind l of them. -/
structure Got (leaf : Bool) (s0 : List UInt8) (c : Nat) (l : List Cl) (s : ByteArray) (e : Int) : Prop where
  size : s.size ≤ 5000
  good : ∀ x ∈ l, okC x ∧ x.val.length ≤ 5000
  fair : e = 0 → ∃ r, s = str r ∧ s0 = l.flatMap (Sl.shR leaf).enc ++ r ∧ ∀ x ∈ l, canR leaf x
  part : ∀ m : List Cl, m.length = c → (∀ x ∈ m, canR leaf x) → s0 = m.flatMap (Sl.shR leaf).enc → e = 0 ∧ l = m.take l.length ∧ s = str ((m.drop l.length).flatMap (Sl.shR leaf).enc)
theorem Got.start (leaf : Bool) (s0 : List UInt8) (c : Nat) (h : s0.length ≤ 5000) : Got leaf s0 c [] (str s0) 0 :=
  ⟨by rw [str_size]; exact h, fun x hx => by simp at hx, fun _ => ⟨s0, rfl, rfl, fun x hx => by simp at hx⟩, fun m _ _ h3 => ⟨rfl, rfl, by rw [h3]; rfl⟩⟩
theorem rc_bounds (leaf : Bool) (s : ByteArray) (e : Int) (h : s.size ≤ 5000) : okC (rcR leaf s e).1 ∧ (rcR leaf s e).1.val.length ≤ 5000 ∧ (rcR leaf s e).2.1.size ≤ 5000 := by
  have hk := ky_left s e
  cases leaf
  · rw [rc_kid rfl rfl]
    have h4 := tk_left (kyR s e).2.1 (kyR s e).2.2 4
    exact ⟨⟨tk_val4 _ _, show 0 < 4294967296 by decide⟩, Nat.zero_le _, by show (tk (kyR s e).2.1 (kyR s e).2.2 4).2.1.size ≤ 5000; omega⟩
  · have h1 := tk_left (kyR s e).2.1 (kyR s e).2.2 1
    by_cases hn : Oc.val (tk (kyR s e).2.1 (kyR s e).2.2 1).1.data.toList = 0
    · rw [rc_zero rfl rfl hn rfl]
      have h4 := vl_left (tk (kyR s e).2.1 (kyR s e).2.2 1).2.1 (tk (kyR s e).2.1 (kyR s e).2.2 1).2.2
      refine ⟨⟨show 0 < 4294967296 by decide, show 0 < 4294967296 by decide⟩, ?_, ?_⟩
      · show (vlR (tk (kyR s e).2.1 (kyR s e).2.2 1).2.1 (tk (kyR s e).2.1 (kyR s e).2.2 1).2.2).1.size ≤ 5000
        omega
      · show (vlR (tk (kyR s e).2.1 (kyR s e).2.2 1).2.1 (tk (kyR s e).2.1 (kyR s e).2.2 1).2.2).2.1.size ≤ 5000
        omega
    · rw [rc_more rfl rfl hn rfl rfl]
      have h4 := tk_left (tk (kyR s e).2.1 (kyR s e).2.2 1).2.1 (tk (kyR s e).2.1 (kyR s e).2.2 1).2.2 4
      have h5 := tk_left (tk (tk (kyR s e).2.1 (kyR s e).2.2 1).2.1 (tk (kyR s e).2.1 (kyR s e).2.2 1).2.2 4).2.1 (tk (tk (kyR s e).2.1 (kyR s e).2.2 1).2.1 (tk (kyR s e).2.1 (kyR s e).2.2 1).2.2 4).2.2 4
      refine ⟨⟨tk_val4 _ _, tk_val4 _ _⟩, Nat.zero_le _, ?_⟩
      show (tk (tk (tk (kyR s e).2.1 (kyR s e).2.2 1).2.1 (tk (kyR s e).2.1 (kyR s e).2.2 1).2.2 4).2.1 (tk (tk (kyR s e).2.1 (kyR s e).2.2 1).2.1 (tk (kyR s e).2.1 (kyR s e).2.2 1).2.2 4).2.2 4).2.1.size ≤ 5000
      omega
theorem drop_at {α : Type} (m : List α) (k : Nat) (h : k < m.length) : ∃ x, m[k]? = some x ∧ m.drop k = x :: m.drop (k + 1) ∧ x ∈ m :=
  ⟨m[k], List.getElem?_eq_getElem h, List.drop_eq_getElem_cons h, List.getElem_mem h⟩
/-- One cell more. -/
theorem Got.next {leaf : Bool} {s0 : List UInt8} {c : Nat} {l : List Cl} {s : ByteArray} {e : Int} (h : Got leaf s0 c l s e) (hl : l.length < c) {x : Cl} {s' : ByteArray} {e' : Int} (hx : rcR leaf s e = (x, s', e', false)) : Got leaf s0 c (l ++ [x]) s' e' := by
  have hb := rc_bounds leaf s e h.size
  rw [hx] at hb
  refine ⟨hb.2.2, ?_, ?_, ?_⟩
  · intro y hy
    rcases List.mem_append.1 hy with hy | hy
    · exact h.good y hy
    · simp at hy; subst hy; exact ⟨hb.1, hb.2.1⟩
  · intro he
    subst he
    have he0 : e = 0 := by
      cases Classical.em (e = 0) with
      | inl h1 => exact h1
      | inr h1 => exact absurd (show (rcR leaf s e).2.2.1 = 0 by rw [hx]) (rc_err leaf s e h1)
    subst he0
    obtain ⟨r, rfl, h2, h3⟩ := h.fair rfl
    obtain ⟨y, t, rfl, h5, h6⟩ := rc_good leaf r (by rw [hx]) (by rw [hx])
    rw [hx] at h6
    injection h6 with h7 h8
    injection h8 with h9 _
    subst h7
    refine ⟨t, h9, ?_, ?_⟩
    · rw [h2, Sl.flat_snoc, List.append_assoc]
    · intro z hz
      rcases List.mem_append.1 hz with hz | hz
      · exact h3 z hz
      · simp at hz; subst hz; exact h5
  · intro m hm hc hs
    obtain ⟨h1, h2, h3⟩ := h.part m hm hc hs
    obtain ⟨y, hy, hd, hym⟩ := drop_at m l.length (by omega)
    subst h1
    rw [hd, List.flatMap_cons] at h3
    rw [h3, rc_app leaf y _ (hc y hym)] at hx
    injection hx with h7 h8
    injection h8 with h9 h10
    injection h10 with h11 _
    subst h7
    refine ⟨h11.symm, ?_, ?_⟩
    · rw [List.length_append, show l.length + [y].length = l.length + 1 from rfl, Sl.take_snoc' m l.length y hy, ← h2]
    · rw [List.length_append, show l.length + [y].length = l.length + 1 from rfl]; exact h9.symm
/-- A cell that is none ends it. -/
theorem Got.none {leaf : Bool} {s0 : List UInt8} {c : Nat} {l : List Cl} {s : ByteArray} {e : Int} (h : Got leaf s0 c l s e) (hl : l.length < c) (hx : (rcR leaf s e).2.2.2 = true) (m : List Cl) (hm : m.length = c) (hc : ∀ x ∈ m, canR leaf x) (hs : s0 = m.flatMap (Sl.shR leaf).enc) : False := by
  obtain ⟨h1, h2, h3⟩ := h.part m hm hc hs
  obtain ⟨y, hy, hd, hym⟩ := drop_at m l.length (by omega)
  subst h1
  rw [hd, List.flatMap_cons] at h3
  rw [h3, rc_app leaf y _ (hc y hym)] at hx
  cases hx
theorem Canon.rest {leaf : Bool} {s : List UInt8} {c : Nat} {m : List Cl} (h : Canon leaf s c m) : s.drop (2 * c) = m.flatMap (Sl.shR leaf).enc := by
  obtain ⟨h1, h2, h3⟩ := h
  rw [h3]; unfold Sl.body
  rw [List.drop_append_of_le_length (by rw [Sl.begins_len, h1]; omega), List.drop_of_length_le (by rw [Sl.begins_len, h1]; omega), List.nil_append]
theorem Canon.size {leaf : Bool} {s : List UInt8} {c : Nat} {m : List Cl} (h : Canon leaf s c m) : 2 * c ≤ s.length := by
  obtain ⟨h1, h2, h3⟩ := h
  rw [h3, Sl.body_len, Sl.sum_eq]; omega
inductive ReadOut (leaf : Bool) (s : List UInt8) (n : Int) (w : World) (e : Ending) (w' : World) : Prop
  | bad (h : ∀ m, 0 ≤ n → ¬ Canon leaf s n.toNat m) (he : e = .returned (.tuple #[.slice none 0 0, .int .i64 4])) (hb : Below w.heap.size w w')
  | ord (l : List Cl) (h0 : 0 ≤ n) (h : Canon leaf s n.toNat l) (hr : Sl.right (Sl.shR leaf) l ≠ 0) (he : e = .returned (.tuple #[.slice none 0 0, .int .i64 (Sl.right (Sl.shR leaf) l)])) (hb : Below w.heap.size w w')
  | ok (l : List Cl) (h0 : 0 ≤ n) (h : Canon leaf s n.toNat l) (hr : Sl.right (Sl.shR leaf) l = 0) (v : Value) (he : e = .returned (.tuple #[v, .int .i64 0])) (hv : SlC w' v l) (hq : Cap v) (hb : Below w.heap.size w w')
end Go.Proofs.YtemfbkelenaaeaaGreat
/- The contract of cut. -/
namespace Go.Proofs.YtemfbkelenaaeaaGreat
open Go.RowKit
theorem two_at_slot (b : Nat) (s : List UInt8) (k : Nat) (hk : 2 * k + 2 ≤ s.length) (w : World) (h : Rd w b (str (s.drop (2 * k))) 0) :
    Calls Tryz.prog 100 #[.pointer (some ⟨b, 0, none⟩)] w fun v w' => v = .returned (.int .u16 (slotAt s k : Nat)) ∧ Rd w' b (str (s.drop (2 * (k + 1)))) 0 ∧ Upd b w w' := by
  have := two_rd b (str (s.drop (2 * k))) 0 w h
  rw [show ((2 : Int)) = ((2 : Nat) : Int) from rfl, tk_str (s.drop (2 * k)) 2 (by rw [List.length_drop]; omega), str_data] at this
  rw [List.drop_drop] at this
  exact this
def slotV (s : List UInt8) (j : Nat) : Value := .int .i64 (slotAt s j : Nat)
def pieceV (s : List UInt8) (c i : Nat) : Value := .string (str (pieceAt s c i))
theorem piece_ext (s : List UInt8) (c q : Nat) (_ : (bsOf s c).getD q 0 ≤ (bsOf s c).getD (q + 1) 0) : pieceV s c q = .string ((str s).extract ((bsOf s c).getD q 0) ((bsOf s c).getD (q + 1) 0)) := by
  rw [ext_mid]; rfl
theorem bs_cell (s : List UInt8) (c j : Nat) (hj : j < c + 1) : ((List.range c).map (slotV s) ++ [Value.int .i64 s.length])[j]? = some (.int .i64 ((bsOf s c).getD j 0 : Nat)) := by
  have e : (List.range c).map (slotV s) ++ [Value.int .i64 s.length] = (bsOf s c).map (fun x : Nat => Value.int .i64 x) := by
    unfold bsOf slotV; rw [List.map_append, List.map_map]; rfl
  have hl := bsOf_len s c
  rw [e, List.getElem?_map, List.getD_eq_getElem?_getD, List.getElem?_eq_getElem (by omega)]
  rfl
set_option maxHeartbeats 8000000 in
set_option maxRecDepth 100000 in
theorem cut_any (s : List UInt8) (hs : s.length ≤ 100000) (n : Int) (w : World) :
    Calls Tryz.prog 80 #[.string (str s), .int .i64 n] w (CutOut s n w) := by
  obtain ⟨i0, hi, hz0, hz1, hz2⟩ := info_parts info3
  have hsz := str_size s
  have hlen : (s.length : Int) ≤ 100000 := by omega
  by_cases h0 : n < 0
  · have HB : Hid (¬ CutGood s n) := fun h => by have := h.1; omega
    go_enter Tryz.func80, Tryz.ntmps80
    go_wp2
    go_ret2
    exact .bad HB.out rfl (Below.refl _ _)
  · obtain ⟨c, rfl⟩ : ∃ c : Nat, n = c := ⟨n.toNat, by omega⟩
    by_cases h1 : s.length / 2 < c
    · have HB : Hid (¬ CutGood s c) := fun h => by have := h.2.1; omega
      have h1' : (s.length : Int) / 2 < c := by omega
      go_enter Tryz.func80, Tryz.ntmps80
      go_wp2
      go_ret2
      exact .bad HB.out rfl (Below.refl _ _)
    · have h1' : ¬ (s.length : Int) / 2 < c := by omega
      have hc2 : 2 * c ≤ s.length := by omega
      have hcb : (c : Int) ≤ 100000 := by omega
      have hmk := fun W => make_ints c (by omega) W
      go_enter Tryz.func80, Tryz.ntmps80
      go_wp2_with (go_at_call 109; refine (over_any _ _).mono ?_; rintro e w1 ⟨rfl, hr1, hb1⟩)
      have HC0 := Lib.hid (made_row w1 (.int .i64 0) c (c + 1) 3 (Nat.le_succ c) (by unfold maxLen; omega))
      have HR0 : Hid (Rd (w1.alloc (.cells (madeCells #[.int .i64 0] (c + 1)) 3)) w.heap.size (str s) 0) := hr1.below ((Below.refl _ _).alloc (Nat.le_refl _) _)
      have HB0 : Hid (Below w.heap.size w (w1.alloc (.cells (madeCells #[.int .i64 0] (c + 1)) 3))) := below_step hb1 ((Below.refl _ _).alloc (Nat.le_refl _) _)
      have HBG : Hid (w.heap.size < w1.heap.size) := hr1.lt
      clear hb1 hr1 hmk
      revert HC0 HR0 HB0 HBG
      generalize (w1.alloc (.cells (madeCells #[.int .i64 0] (c + 1)) 3)) = w2
      generalize w1.heap.size = g
      intro HC0 HR0 HB0 HBG
      go_loopg [28] c (fun n i wr => ∃ k : Nat, k ≤ c ∧ n = c - k ∧ i = .int .i64 k ∧ Hid (Rd wr w.heap.size (str (s.drop (2 * k))) 0) ∧ Hid (wr.ownsRow g 3 1 (.slice (some ⟨g, 0, none⟩) c (c + 1)) c ((List.range k).map (slotV s) ++ List.replicate (c - k) (.int .i64 0))) ∧ Hid (Below w.heap.size w wr))
      case atStart => exact ⟨0, Nat.zero_le _, rfl, rfl, by simpa using HR0, by simpa using HC0, HB0.out⟩
      case round =>
        obtain ⟨k, hk, rfl, rfl, HR, HO, HB⟩ := hrel
        by_cases hlt : k < c
        · have HT := Lib.hid (two_at_slot w.heap.size s k (by omega) wr HR.out)
          have hv := slotAt_lt s k
          have HSN := Lib.hid (set_next (slotV s) (.int .i64 0) c k hlt)
          have HSV : Hid (slotV s k = .int .i64 (slotAt s k : Nat)) := rfl
          revert HT hv HSV
          generalize slotAt s k = q
          intro HT hv HSV
          have hq : (q : Int) < 65536 := by omega
          have hk0 : (0 : Int) ≤ (k : Int) := by omega
          have hk1 : (k : Int) < c := by omega
          go_wp2_with (go_at_call 100; (refine HT.out.mono ?_; rintro e w5 ⟨rfl, hr5, hu5⟩; have HO5 := Lib.hid (own_upd HO.out hu5 HBG.out); have fz := HO5.out.frozenAt k; have ck := (HO5.out.cellAt k (by omega)).trans (List.getElem?_eq_getElem (by simp; omega))))
          have HO6 : Hid ((w5.setCell ⟨g, k, none⟩ (.int .i64 q)).ownsRow g 3 1 (.slice (some ⟨g, 0, none⟩) c (c + 1)) c ((List.range (k + 1)).map (slotV s) ++ List.replicate (c - (k + 1)) (.int .i64 0))) := by
            have := (HO5.out.stored k (.int .i64 q)).1
            rw [← HSV.out, HSN.out, HSV.out] at this
            exact this
          have HR6 : Hid (Rd (w5.setCell ⟨g, k, none⟩ (.int .i64 q)) w.heap.size (str (s.drop (2 * (k + 1)))) 0) := hr5.upd ((Upd.refl g w5).setCell (o := k) (.int .i64 q)) (by have := HBG.out; omega)
          have HB6 : Hid (Below w.heap.size w (w5.setCell ⟨g, k, none⟩ (.int .i64 q))) := (HB.out.trans (hu5.below (Nat.le_refl _))).setCell (p := ⟨g, k, none⟩) (Nat.le_of_lt HBG.out) _
          clear hr5 hu5 fz ck
          go_roundg (c - (k + 1))
          case measure => omega
          case rel => exact ⟨k + 1, by omega, rfl, by go_num, HR6, HO6, HB6⟩
        · obtain rfl : k = c := by omega
          rw [Nat.sub_self, List.replicate_zero, List.append_nil] at HO
          go_wp2_with (at_builtin; (refine wpList_append_fits _ rfl _ _ 164 rfl g 3 i0 1 Tryz.underlying164 hi hz1 g k (k + 1) _ rfl (HO.out.alloc _) ⟨wr.heap.size, 0, none⟩ 1 1 [.int .i64 s.length] rfl rfl ?q3 ?q4 ?q5 ?_))
          case q3 =>
            intro j u hj
            match j, hj with
            | 0, hj => simp at hj; subst hj; simp [Addr.add]
            | (j + 1), hj => simp at hj
          case q4 => intro u hu; simp at hu; subst hu; rfl
          case q5 => omega
          intro w4 hown4 hgrow4
          have HB4 : Hid (Below w.heap.size w w4) := (HB.out.alloc HB.out.size _).grown hgrow4 (by have := HB.out.size; simp; omega) (fun k hk => by cases hk; exact Nat.le_of_lt HBG.out)
          have HX4 : Hid (∀ j, j < k + 1 → w4.cell? ⟨g, j, none⟩ = some (.int .i64 ((bsOf s k).getD j 0 : Nat))) := by
            intro j hj
            rw [hown4.cellAt j (by omega)]
            exact bs_cell s k j hj
          have hc0 := HX4.out 0 (Nat.succ_pos k)
          have HSo : Hid (∀ W, (∀ j, j < k + 1 → W.cell? ⟨g, j, none⟩ = some (.int .i64 ((bsOf s k).getD j 0 : Nat))) → Calls Tryz.prog 110 #[.slice (some ⟨g, 0, none⟩) (k + 1) (k + 1)] W (SortOut (bsOf s k) W)) := fun W hW => by
            have := sorted_any g (k + 1) (bsOf s k) (by rw [bsOf_len]; omega) (by rw [bsOf_len]; omega) W (by rw [bsOf_len]; exact hW)
            rw [bsOf_len] at this
            exact this
          have hkp : 0 < k + 1 := Nat.succ_pos k
          clear hown4 hgrow4 HO HR
          by_cases hb0 : (bsOf s k).getD 0 0 = 2 * k
          · have hd : (((bsOf s k).getD 0 0 : Nat) : Int) = 2 * k := by omega
            rw [hd] at hc0
            clear hd
            go_wp2_with (go_at_call 110; refine (HSo.out _ HX4.out).mono ?_)
            rintro e w5 (⟨hsrt, rfl, m, rfl⟩ | ⟨i, hi2, hlt2, rfl, m, rfl⟩)
            · have HG : Hid (CutGood s k) := ⟨by omega, by omega, by simpa using hb0, fun i hi3 => hsrt i (by rw [bsOf_len]; simpa using hi3)⟩
              have HST := Lib.hid hsrt
              have HX5 : Hid (∀ j, j < k + 1 → (w4.drewN m).cell? ⟨g, j, none⟩ = some (.int .i64 ((bsOf s k).getD j 0 : Nat))) := HX4.out
              have HB5 : Hid (Below w.heap.size w (w4.drewN m)) := ⟨HB4.out.os, HB4.out.tape, HB4.out.output, HB4.out.size, HB4.out.block⟩
              have hmk2 := fun W => make_texts k (by omega) W
              have HGL : Hid (g < (w4.drewN m).heap.size) := World.block_lt_of_cell? _ _ (HX5.out 0 hkp)
              clear hc0 hsrt HX4 HB4
              revert HX5 HB5 HGL
              generalize w4.drewN m = w5
              intro HX5 HB5 HGL
              have HO0 := Lib.hid (made_row w5 (.string ByteArray.empty) k k 9 (Nat.le_refl k) (by unfold maxLen; omega))
              have HX6 : Hid (∀ j, j < k + 1 → (w5.alloc (.cells (madeCells #[.string ByteArray.empty] k) 9)).cell? ⟨g, j, none⟩ = some (.int .i64 ((bsOf s k).getD j 0 : Nat))) := fun j hj => (old_at j HGL.out).trans (HX5.out j hj)
              have HB6 : Hid (Below w.heap.size w (w5.alloc (.cells (madeCells #[.string ByteArray.empty] k) 9))) := HB5.out.alloc HB5.out.size _
              go_wp2_with fail
              revert HO0 HX6 HB6
              clear hmk2
              generalize (w5.alloc (.cells (madeCells #[.string ByteArray.empty] k) 9)) = w6
              intro HO0 HX6 HB6
              have HGL5 : Hid (w.heap.size ≤ w5.heap.size) := HB5.out.size
              revert HGL HGL5 HO0
              generalize w5.heap.size = h
              intro HGL HO0 HGL5
              go_loopg [58] k (fun n i wr => ∃ q : Nat, q ≤ k ∧ n = k - q ∧ i = .int .i64 q ∧ Hid (wr.ownsRow h 9 1 (.slice (some ⟨h, 0, none⟩) k k) k ((List.range q).map (pieceV s k) ++ List.replicate (k - q) (.string ByteArray.empty))) ∧ Hid (∀ j, j < k + 1 → wr.cell? ⟨g, j, none⟩ = some (.int .i64 ((bsOf s k).getD j 0 : Nat))) ∧ Hid (Below w.heap.size w wr))
              case atStart => exact ⟨0, Nat.zero_le _, rfl, rfl, by simpa using HO0, HX6.out, HB6.out⟩
              case round =>
                obtain ⟨q, hq, rfl, rfl, HO, HX, HBr⟩ := hrel
                by_cases hlt : q < k
                · have c0 := HX.out q (by omega)
                  have c1 := HX.out (q + 1) (by omega)
                  have fz := HO.out.frozenAt q
                  have ck := (HO.out.cellAt q (by omega)).trans (List.getElem?_eq_getElem (by simp; omega))
                  have HSN := Lib.hid (set_next (pieceV s k) (.string ByteArray.empty) k q hlt)
                  have h12 := HST.out q (by rw [bsOf_len]; omega)
                  have hle := bs_le s k HST.out q (by omega)
                  have hle1 := bs_le s k HST.out (q + 1) (by omega)
                  have HPV : Hid (pieceV s k q = .string ((str s).extract ((bsOf s k).getD q 0) ((bsOf s k).getD (q + 1) 0))) := piece_ext s k q h12
                  revert c0 c1 h12 hle hle1 HPV
                  generalize (bsOf s k).getD q 0 = x0
                  generalize (bsOf s k).getD (q + 1) 0 = x1
                  intro c0 c1 h12 hle hle1 HPV
                  have hq0 : (0 : Int) ≤ (q : Int) := by omega
                  have hq1 : (q : Int) < k := by omega
                  have hq2 : (0 : Int) ≤ (q : Int) + 1 := by omega
                  have hq3 : (q : Int) + 1 < ((k + 1 : Nat) : Int) := by omega
                  have hq5 : (q : Int) < ((k + 1 : Nat) : Int) := by omega
                  have hq6 : (q : Int) ≤ k := by omega
                  have hq7 : (q : Int) < (k : Int) + 1 := by omega
                  have hq8 : (q : Int) + 1 < (k : Int) + 1 := by omega
                  have hq9 : (q : Int) + 1 ≤ k := by omega
                  have hq4 : ((q : Int) + 1).toNat = q + 1 := by omega
                  have hwr : IntKind.i64.wrap ((q : Int) + 1) = (q : Int) + 1 := IntWalk.i64_in _ (by omega)
                  have hx0 : (0 : Int) ≤ (x0 : Int) := by omega
                  have hx1 : (x0 : Int) ≤ (x1 : Int) := by omega
                  have hx2 : (x1 : Int) ≤ s.length := by omega
                  have hgh : g ≠ h := by have := HGL.out; omega
                  have HF : Hid (wr.drew.cell? ⟨g, q, none⟩ = some (.int .i64 x0) ∧ wr.drew.cell? ⟨g, q + 1, none⟩ = some (.int .i64 x1)) := ⟨c0, c1⟩
                  have HF2 : Hid (∀ v, (wr.setCell ⟨h, q, none⟩ v).drew.cell? ⟨g, q, none⟩ = some (.int .i64 x0) ∧ (wr.setCell ⟨h, q, none⟩ v).drew.cell? ⟨g, q + 1, none⟩ = some (.int .i64 x1)) := fun v => ⟨(World.cell?_setCell_other wr ⟨h, q, none⟩ ⟨g, q, none⟩ v (off_ne (fun e => hgh e.symm))).trans c0, (World.cell?_setCell_other wr ⟨h, q, none⟩ ⟨g, q + 1, none⟩ v (off_ne (fun e => hgh e.symm))).trans c1⟩
                  go_wp2_with fail
                  go_region_held3 (fun w' => w'.cell? ⟨g, q, none⟩ = some (.int .i64 x0) ∧ w'.cell? ⟨g, q + 1, none⟩ = some (.int .i64 x1))
                    ((first | assumption | exact HF.out | exact HF2.out _))
                    (fail)
                  have HO7 : Hid ((wr.setCell ⟨h, q, none⟩ (.string ((str s).extract x0 x1))).drew.ownsRow h 9 1 (.slice (some ⟨h, 0, none⟩) k k) k ((List.range (q + 1)).map (pieceV s k) ++ List.replicate (k - (q + 1)) (.string ByteArray.empty))) := by
                    have := (HO.out.stored q (.string ((str s).extract x0 x1))).1
                    rw [← HPV.out, HSN.out, HPV.out] at this
                    exact this
                  have HX7 : Hid (∀ j, j < k + 1 → (wr.setCell ⟨h, q, none⟩ (.string ((str s).extract x0 x1))).drew.cell? ⟨g, j, none⟩ = some (.int .i64 ((bsOf s k).getD j 0 : Nat))) := fun j hj => (World.cell?_setCell_other wr ⟨h, q, none⟩ ⟨g, j, none⟩ _ (off_ne (fun e => hgh e.symm))).trans (HX.out j hj)
                  have HB7 : Hid (Below w.heap.size w (wr.setCell ⟨h, q, none⟩ (.string ((str s).extract x0 x1))).drew) := (HBr.out.setCell (p := ⟨h, q, none⟩) HGL5.out _).drew
                  clear hwr hq4
                  go_wp2
                  go_roundg (k - (q + 1))
                  case measure => omega
                  case rel => exact ⟨q + 1, by omega, rfl, by go_num, HO7, HX7, HB7⟩
                · obtain rfl : q = k := by omega
                  rw [Nat.sub_self, List.replicate_zero, List.append_nil] at HO
                  have HT : Hid (SlT wr (.slice (some ⟨h, 0, none⟩) q q) (pieces s q)) := by
                    have hpl : (pieces s q).length = q := by simp [pieces]
                    refine SlT.own (B := h) (e := 9) ?_
                    rw [hpl, show (pieces s q).map (fun p => Value.string (str p)) = (List.range q).map (pieceV s q) by unfold pieces; rw [List.map_map]; rfl]
                    exact HO.out
                  go_wp2
                  go_ret2
                  exact .ok HG.out _ rfl HT.out HBr.out
            · have HG : Hid (¬ CutGood s k) := fun h => by
                have := h.2.2.2 i (by rw [bsOf_len] at hi2; simpa using hi2)
                simp only [Int.toNat_natCast] at this
                omega
              go_wp2
              go_ret2
              exact .bad HG.out rfl ⟨HB4.out.os, HB4.out.tape, HB4.out.output, HB4.out.size, HB4.out.block⟩
          · have HG : Hid (¬ CutGood s k) := fun h => hb0 (by simpa using h.2.2.1)
            have hd : ((((bsOf s k).getD 0 0 : Nat) : Int) != 2 * k) = true := by rw [bne_iff_ne]; omega
            revert hc0 hd
            generalize (bsOf s k).getD 0 0 = b0
            intro hc0 hd
            go_wp2
            go_ret2
            exact .bad HG.out rfl HB4.out
end Go.Proofs.YtemfbkelenaaeaaGreat
/- What cut tells is a body of cells: where each piece is a cell's bytes, it is that of the cells, and the other way. -/
namespace Go.Proofs.YtemfbkelenaaeaaGreat
open Go.RowKit
open Sl (Cl Kd)
def offS {α : Type} (S : Sl.Sh α) (l : List α) (j : Nat) : Nat := ((l.take j).flatMap S.enc).length
theorem off_zero {α : Type} (S : Sl.Sh α) (l : List α) : offS S l 0 = 0 := by simp [offS]
theorem off_succ {α : Type} (S : Sl.Sh α) (l : List α) (j : Nat) (x : α) (h : l[j]? = some x) : offS S l (j + 1) = offS S l j + (S.enc x).length := by
  unfold offS; rw [Sl.flat_at S l j x h, List.length_append]
theorem off_cons {α : Type} (S : Sl.Sh α) (x : α) (l : List α) (j : Nat) : offS S (x :: l) (j + 1) = (S.enc x).length + offS S l j := by
  unfold offS; rw [List.take_succ_cons, List.flatMap_cons, List.length_append]
theorem off_all {α : Type} (S : Sl.Sh α) (l : List α) : offS S l l.length = (l.flatMap S.enc).length := by unfold offS; rw [List.take_length]
theorem slot_begins {α : Type} (S : Sl.Sh α) : ∀ (l : List α) (n j : Nat) (t : List UInt8), j < l.length → ((Sl.begins S n l ++ t).drop (2 * j)).take 2 = Oc.big 2 (n + offS S l j)
  | [], _, _, _, h => absurd h (Nat.not_lt_zero _)
  | x :: l, n, 0, t, _ => by
    rw [Sl.begins, off_zero, List.append_assoc, Nat.mul_zero, List.drop_zero, Nat.add_zero]
    have hl := Oc.big_length 2 n
    rw [List.take_append_of_le_length (Nat.le_of_eq hl.symm), List.take_of_length_le (Nat.le_of_eq hl)]
  | x :: l, n, j + 1, t, h => by
    have hl := Oc.big_length 2 n
    rw [Sl.begins, List.append_assoc, show 2 * (j + 1) = (Oc.big 2 n).length + 2 * j by omega, ← List.drop_drop, List.drop_left, slot_begins S l _ j t (by simpa using h), off_cons, Nat.add_assoc]
theorem take_begins {α : Type} (S : Sl.Sh α) : ∀ (l : List α) (n : Nat) (s : List UInt8), 2 * l.length ≤ s.length → (∀ j, j < l.length → (s.drop (2 * j)).take 2 = Oc.big 2 (n + offS S l j)) → s.take (2 * l.length) = Sl.begins S n l
  | [], _, _, _, _ => by simp [Sl.begins]
  | x :: l, n, s, hs, h => by
    have h0 := h 0 (Nat.succ_pos _)
    rw [off_zero, Nat.mul_zero, List.drop_zero, Nat.add_zero] at h0
    have hs' : 2 * l.length + 2 ≤ s.length := by rw [List.length_cons] at hs; omega
    have hr := take_begins S l (n + (S.enc x).length) (s.drop 2) (by rw [List.length_drop]; omega) (fun j hj => by
      have := h (j + 1) (Nat.succ_lt_succ hj)
      rw [off_cons, show 2 * (j + 1) = 2 + 2 * j by omega, ← List.drop_drop, ← Nat.add_assoc] at this
      exact this)
    rw [Sl.begins, ← h0, ← hr, List.length_cons, show 2 * (l.length + 1) = 2 + 2 * l.length by omega, List.take_add]
theorem bs_lo (s : List UInt8) (c j : Nat) (h : j < c) : (bsOf s c).getD j 0 = slotAt s j := by
  unfold bsOf
  rw [List.getD_eq_getElem?_getD, List.getElem?_append_left (by simpa using h), List.getElem?_map, List.getElem?_range h]; rfl
theorem bs_hi (s : List UInt8) (c : Nat) : (bsOf s c).getD c 0 = s.length := by
  unfold bsOf
  rw [List.getD_eq_getElem?_getD, List.getElem?_append_right (by simp)]; simp
/-- A body's pieces are its cells' bytes. -/
theorem Canon.bs {leaf : Bool} {s : List UInt8} {c : Nat} {m : List Cl} (h : Canon leaf s c m) (hs : s.length ≤ 60000) (j : Nat) (hj : j ≤ c) : (bsOf s c).getD j 0 = 2 * c + offS (Sl.shR leaf) m j := by
  obtain ⟨h1, h2, h3⟩ := h
  have hz : s.length = 2 * c + (m.flatMap (Sl.shR leaf).enc).length := by rw [h3, Sl.body_len, Sl.sum_eq, h1]
  rcases Nat.lt_or_ge j c with h | h
  · rw [bs_lo s c j h]
    unfold slotAt
    have hle : offS (Sl.shR leaf) m j ≤ (m.flatMap (Sl.shR leaf).enc).length := by
      unfold offS
      conv => rhs; rw [← List.take_append_drop j m, List.flatMap_append, List.length_append]
      omega
    conv => lhs; rw [h3]
    unfold Sl.body
    rw [slot_begins (Sl.shR leaf) m _ j _ (by omega), h1, val_big2 _ (by omega)]
  · obtain rfl : j = c := by omega
    rw [bs_hi, hz, ← off_all, h1]
theorem Canon.cut {leaf : Bool} {s : List UInt8} {c : Nat} {m : List Cl} (h : Canon leaf s c m) (hs : s.length ≤ 60000) : CutGood s (c : Int) := by
  have hz := h.size
  refine ⟨Int.natCast_nonneg _, by omega, ?_, ?_⟩
  · rw [Int.toNat_natCast, h.bs hs 0 (Nat.zero_le _), off_zero]
    rfl
  · intro i hi
    rw [Int.toNat_natCast] at hi ⊢
    have hil : i < m.length := by rw [h.1]; omega
    rw [h.bs hs i (by omega), h.bs hs (i + 1) (by omega), off_succ _ _ i _ (List.getElem?_eq_getElem hil)]
    omega
theorem Canon.piece {leaf : Bool} {s : List UInt8} {c : Nat} {m : List Cl} (h : Canon leaf s c m) (hs : s.length ≤ 60000) (i : Nat) (x : Cl) (hx : m[i]? = some x) : pieceAt s c i = (Sl.shR leaf).enc x := by
  obtain ⟨hil, hxe⟩ := List.getElem?_eq_some_iff.1 hx
  have hic : i < c := by rw [← h.1]; exact hil
  unfold pieceAt
  rw [h.bs hs i (by omega), h.bs hs (i + 1) (by omega), off_succ _ _ i x hx]
  rw [← List.drop_drop, h.rest]
  have hd : (m.flatMap (Sl.shR leaf).enc).drop (offS (Sl.shR leaf) m i) = (Sl.shR leaf).enc x ++ (m.drop (i + 1)).flatMap (Sl.shR leaf).enc := by
    unfold offS
    conv => lhs; rw [← List.take_append_drop i m, List.flatMap_append]
    rw [List.take_append_drop, List.drop_left, List.drop_eq_getElem_cons hil, List.flatMap_cons, hxe]
  rw [hd, show 2 * c + (offS (Sl.shR leaf) m i + ((Sl.shR leaf).enc x).length) - (2 * c + offS (Sl.shR leaf) m i) = ((Sl.shR leaf).enc x).length by omega, List.take_left]
/-- Where the pieces are cells' bytes, it is the body of the cells. -/
theorem canon_of_cut {leaf : Bool} {s : List UInt8} {c : Nat} (h : CutGood s (c : Int)) (l : List Cl) (hl : l.length = c) (hc : ∀ x ∈ l, canR leaf x) (hp : ∀ i x, l[i]? = some x → pieceAt s c i = (Sl.shR leaf).enc x) : Canon leaf s c l := by
  obtain ⟨_, g1, g2, g3⟩ := h
  rw [Int.toNat_natCast] at g2 g3
  have hle := bs_le s c (fun i hi => g3 i (by rw [bsOf_len] at hi; exact hi))
  have hstep : ∀ i x, l[i]? = some x → (bsOf s c).getD (i + 1) 0 = (bsOf s c).getD i 0 + ((Sl.shR leaf).enc x).length := by
    intro i x hx
    have hil : i < c := by rw [← hl]; exact (List.getElem?_eq_some_iff.1 hx).1
    have h1 := hp i x hx
    have h2 := hle (i + 1) (by omega)
    have h3 := g3 i (by omega)
    rw [← h1]; unfold pieceAt
    rw [List.length_take, List.length_drop]; omega
  have hoff : ∀ i, i ≤ c → (bsOf s c).getD i 0 = 2 * c + offS (Sl.shR leaf) l i := by
    intro i
    induction i with
    | zero => intro _; rw [g2, off_zero]; rfl
    | succ i ih =>
      intro hi
      have hx : l[i]? = some l[i] := List.getElem?_eq_getElem (by omega)
      rw [hstep i _ hx, ih (by omega), off_succ _ _ i _ hx, Nat.add_assoc]
  have hrest : ∀ k i, i + k = c → s.drop ((bsOf s c).getD i 0) = (l.drop i).flatMap (Sl.shR leaf).enc := by
    intro k
    induction k with
    | zero =>
      intro i hi
      obtain rfl : i = c := by omega
      rw [bs_hi, List.drop_length, List.drop_of_length_le (Nat.le_of_eq hl)]; rfl
    | succ k ih =>
      intro i hi
      have hil : i < l.length := by omega
      have hx : l[i]? = some l[i] := List.getElem?_eq_getElem hil
      have h1 := hp i _ hx
      have h2 := ih (i + 1) (by omega)
      have h3 := hstep i _ hx
      unfold pieceAt at h1
      rw [h3, Nat.add_sub_cancel_left] at h1
      rw [h3, ← List.drop_drop] at h2
      rw [List.drop_eq_getElem_cons hil, List.flatMap_cons, ← h2]
      conv => lhs; rw [← List.take_append_drop ((Sl.shR leaf).enc l[i]).length (s.drop ((bsOf s c).getD i 0))]
      rw [h1]
  have hr0 := hrest c 0 (by omega)
  rw [g2, List.drop_zero] at hr0
  have htk : s.take (2 * l.length) = Sl.begins (Sl.shR leaf) (2 * c) l := by
    refine take_begins (Sl.shR leaf) l (2 * c) s (by omega) fun j hj => ?_
    have h1 := hoff j (by omega)
    rw [bs_lo s c j (by omega)] at h1
    rw [← h1]; unfold slotAt
    rw [big_val' 2 _ (by rw [List.length_take, List.length_drop]; omega)]
  refine ⟨hl, hc, ?_⟩
  unfold Sl.body
  rw [← List.take_append_drop (2 * c) s, hr0, hl, ← htk, hl]
end Go.Proofs.YtemfbkelenaaeaaGreat
