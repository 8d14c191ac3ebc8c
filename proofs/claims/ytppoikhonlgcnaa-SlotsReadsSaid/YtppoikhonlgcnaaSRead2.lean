/- What a codec's Read answers, and the bodies that are rows of cells. -/
import Derived.Test.YtppoikhonlgcnaaSRead
import Derived.Test.YtppoikhonlgcnaaRdK
import Derived.Test.YtppoikhonlgcnaaSMath3
namespace Go.Proofs.Ytppoikhonlgcnaa
open Go.RowKit
open Sl (Cl Kd)
theorem str_inj {a b : List UInt8} (h : str a = str b) : a = b := by
  have := congrArg (fun x : ByteArray => x.data.toList) h
  exact this
theorem gc_of_rc {s : ByteArray} {x : Cl} {r : ByteArray} (h : rcR true s 0 = (x, r, 0, false)) : gcR s 0 = (x, r, 0) := by
  by_cases hn : Oc.val (tk (kyR s 0).2.1 (kyR s 0).2.2 1).1.data.toList = 0
  · rw [rc_zero rfl rfl hn rfl] at h
    unfold gcR
    simp only
    rw [if_pos hn]
    injection h with h1 h
    injection h with h2 h
    injection h with h3 h
    rw [if_neg (by rw [h3]; simp), h1]
    exact Prod.ext rfl (Prod.ext h2 h3)
  · rw [rc_more rfl rfl hn rfl rfl] at h
    injection h with h1 h
    injection h with h2 h
    injection h with h3 h4
    have h5 := of_decide_eq_false h4
    unfold gcR
    simp only
    rw [if_neg hn]
    have hn1 : Oc.val (tk (kyR s 0).2.1 (kyR s 0).2.2 1).1.data.toList = 1 := by omega
    have hc : Oc.val (tk (tk (kyR s 0).2.1 (kyR s 0).2.2 1).2.1 (tk (kyR s 0).2.1 (kyR s 0).2.2 1).2.2 4).1.data.toList ≠ 0 := by omega
    rw [if_pos hn1, if_neg hc, if_neg (by rw [h3]; simp), h1]
    exact Prod.ext rfl (Prod.ext h2 h3)
theorem rc_of_gc {s : ByteArray} (h : (gcR s 0).2.2 = 0) : rcR true s 0 = ((gcR s 0).1, (gcR s 0).2.1, 0, false) := by
  by_cases hn : Oc.val (tk (kyR s 0).2.1 (kyR s 0).2.2 1).1.data.toList = 0
  · rw [rc_zero rfl rfl hn rfl]
    unfold gcR at h ⊢
    simp only at h ⊢
    rw [if_pos hn] at h ⊢
    by_cases hv : (vlR (tk (kyR s 0).2.1 (kyR s 0).2.2 1).2.1 (tk (kyR s 0).2.1 (kyR s 0).2.2 1).2.2).2.2 ≠ 0
    · rw [if_pos hv] at h; exact absurd h hv
    · rw [if_neg hv] at h ⊢
      exact Prod.ext rfl (Prod.ext rfl (Prod.ext h rfl))
  · rw [rc_more rfl rfl hn rfl rfl]
    unfold gcR at h ⊢
    simp only at h ⊢
    rw [if_neg hn] at h ⊢
    by_cases hn1 : Oc.val (tk (kyR s 0).2.1 (kyR s 0).2.2 1).1.data.toList = 1
    · rw [if_pos hn1] at h ⊢
      by_cases hc : Oc.val (tk (tk (kyR s 0).2.1 (kyR s 0).2.2 1).2.1 (tk (kyR s 0).2.1 (kyR s 0).2.2 1).2.2 4).1.data.toList = 0
      · rw [if_pos hc, if_pos (failR_ne _)] at h; exact absurd h (failR_ne _)
      · rw [if_neg hc] at h ⊢
        by_cases hv : (tk (tk (tk (kyR s 0).2.1 (kyR s 0).2.2 1).2.1 (tk (kyR s 0).2.1 (kyR s 0).2.2 1).2.2 4).2.1 (tk (tk (kyR s 0).2.1 (kyR s 0).2.2 1).2.1 (tk (kyR s 0).2.1 (kyR s 0).2.2 1).2.2 4).2.2 4).2.2 ≠ 0
        · rw [if_pos hv] at h; exact absurd h hv
        · rw [if_neg hv] at h ⊢
          exact Prod.ext rfl (Prod.ext rfl (Prod.ext h (by simp [hn1, hc])))
    · rw [if_neg hn1] at h; exact absurd h (failR_ne _)
theorem fin_zero {s : ByteArray} {e : Int} (h : fin s e = 0) : e = 0 ∧ s.size = 0 := by
  unfold fin at h
  by_cases hh : e = 0 ∧ 0 < s.size
  · rw [if_pos hh] at h; cases h
  · rw [if_neg hh] at h
    exact ⟨h, by omega⟩
theorem fin_nil : fin (str []) 0 = 0 := rfl
theorem size_nil {s : ByteArray} (h : s.size = 0) : s = str [] := by
  apply ByteArray.ext
  exact Array.eq_empty_of_size_eq_zero h
theorem rdC_good (p : List UInt8) (h : (rdC (str p)).2 = 0) : canC (rdC (str p)).1 ∧ p = Sl.encC (rdC (str p)).1 := by
  unfold rdC at h ⊢
  simp only at h ⊢
  by_cases hf : fin (gcR (str p) 0).2.1 (gcR (str p) 0).2.2 = 0
  · rw [if_pos hf]
    obtain ⟨h1, h2⟩ := fin_zero hf
    have h3 := rc_of_gc h1
    obtain ⟨x, r, h4, h5, h6⟩ := rc_good true p (by rw [h3]) (by rw [h3])
    rw [h3] at h6
    injection h6 with h7 h8
    injection h8 with h9 _
    have hr := str_inj (h9.symm.trans (size_nil h2))
    subst hr
    simp only
    rw [h7]
    rw [List.append_nil] at h4
    exact ⟨h5, h4⟩
  · rw [if_neg hf] at h; exact absurd h hf
theorem rdC_app (x : Cl) (h : canC x) : rdC (str (Sl.encC x)) = (x, 0) := by
  have h1 := rc_app true x [] h
  rw [List.append_nil] at h1
  have h2 := gc_of_rc (s := str (Sl.encC x)) h1
  unfold rdC
  simp only
  rw [h2]
  simp only
  rw [if_pos fin_nil]
theorem gk_rc (s : ByteArray) : rcR false s 0 = (⟨(kyR s 0).1.data.toList, [], Oc.val (tk (kyR s 0).2.1 (kyR s 0).2.2 4).1.data.toList, 0⟩, (tk (kyR s 0).2.1 (kyR s 0).2.2 4).2.1, (tk (kyR s 0).2.1 (kyR s 0).2.2 4).2.2, false) := rc_kid rfl rfl
theorem gk_zero {s : ByteArray} (h : (gkR s 0).2.2 = 0) : rcR false s 0 = (toC (gkR s 0).1, (gkR s 0).2.1, 0, false) := by
  rw [gk_rc]
  unfold gkR at h ⊢
  simp only at h ⊢
  by_cases hv : (tk (kyR s 0).2.1 (kyR s 0).2.2 4).2.2 ≠ 0
  · rw [if_pos hv] at h; exact absurd h hv
  · rw [if_neg hv] at h ⊢
    exact Prod.ext rfl (Prod.ext rfl (Prod.ext h rfl))
theorem gk_of_rc {s : ByteArray} {k : Kd} {r : ByteArray} (h : rcR false s 0 = (toC k, r, 0, false)) : gkR s 0 = (k, r, 0) := by
  rw [gk_rc] at h
  injection h with h1 h
  injection h with h2 h
  injection h with h3 _
  unfold gkR
  simp only
  rw [if_neg (by rw [h3]; simp)]
  unfold toC at h1
  injection h1 with a1 _ a3 _
  exact Prod.ext (by rw [a1, a3]) (Prod.ext h2 h3)
theorem rdK_good (p : List UInt8) (h : (rdK (str p)).2 = 0) : canK (rdK (str p)).1 ∧ p = Sl.encK (rdK (str p)).1 := by
  unfold rdK at h ⊢
  simp only at h ⊢
  by_cases hf : fin (gkR (str p) 0).2.1 (gkR (str p) 0).2.2 = 0
  · rw [if_pos hf]
    obtain ⟨h1, h2⟩ := fin_zero hf
    have h3 := gk_zero h1
    obtain ⟨x, r, h4, h5, h6⟩ := rc_good false p (by rw [h3]) (by rw [h3])
    rw [h3] at h6
    injection h6 with h7 h8
    injection h8 with h9 _
    have hr := str_inj (h9.symm.trans (size_nil h2))
    subst hr
    rw [List.append_nil] at h4
    rw [← h7] at h4 h5
    exact ⟨⟨h5.1, h5.2.1⟩, h4⟩
  · rw [if_neg hf] at h; exact absurd h hf
theorem rdK_app (x : Kd) (h : canK x) : rdK (str (Sl.encK x)) = (x, 0) := by
  have h1 := rc_app false (toC x) [] ⟨h.1, h.2, rfl, rfl⟩
  rw [List.append_nil] at h1
  have h2 := gk_of_rc (s := str (Sl.encK x)) h1
  unfold rdK
  simp only
  rw [h2]
  simp only
  rw [if_pos fin_nil]
theorem flat_one (leaf : Bool) : ∀ (l m : List Cl) (r t : List UInt8), (∀ x ∈ l, canR leaf x) → (∀ x ∈ m, canR leaf x) → l.length = m.length → l.flatMap (Sl.shR leaf).enc ++ r = m.flatMap (Sl.shR leaf).enc ++ t → l = m ∧ r = t
  | [], [], r, t, _, _, _, h => ⟨rfl, by simpa using h⟩
  | [], _ :: _, _, _, _, _, h, _ => by cases h
  | _ :: _, [], _, _, _, _, h, _ => by cases h
  | x :: l, y :: m, r, t, hl, hm, hlen, h => by
    rw [List.flatMap_cons, List.flatMap_cons, List.append_assoc, List.append_assoc] at h
    have h1 := rc_app leaf x (l.flatMap (Sl.shR leaf).enc ++ r) (hl x (by simp))
    rw [h, rc_app leaf y _ (hm y (by simp))] at h1
    injection h1 with h2 h3
    injection h3 with h4 _
    obtain ⟨h5, h6⟩ := flat_one leaf l m r t (fun z hz => hl z (by simp [hz])) (fun z hz => hm z (by simp [hz])) (by simpa using hlen) (str_inj h4).symm
    exact ⟨by rw [h2, h5], h6⟩
/-- The body is that of the cells. -/
def Canon (leaf : Bool) (s : List UInt8) (c : Nat) (l : List Cl) : Prop := l.length = c ∧ (∀ x ∈ l, canR leaf x) ∧ s = Sl.body (Sl.shR leaf) l
theorem Canon.unique {leaf : Bool} {s : List UInt8} {c : Nat} {l m : List Cl} (h : Canon leaf s c l) (k : Canon leaf s c m) : l = m := by
  obtain ⟨h1, h2, h3⟩ := h
  obtain ⟨k1, k2, k3⟩ := k
  rw [h3] at k3
  unfold Sl.body at k3
  have hb : (Sl.begins (Sl.shR leaf) (2 * l.length) l).length = (Sl.begins (Sl.shR leaf) (2 * m.length) m).length := by rw [Sl.begins_len, Sl.begins_len, h1, k1]
  have := List.append_inj_right k3 hb
  exact (flat_one leaf l m [] [] h2 k2 (h1.trans k1.symm) (by rw [List.append_nil, List.append_nil]; exact this)).1
end Go.Proofs.Ytppoikhonlgcnaa
