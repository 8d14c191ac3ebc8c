/- What is read of bytes by the readers' steps, and the bytes that say so. -/
import Derived.Test.YtppoikhonlgcnaaCutSpec
import Derived.Test.YtppoikhonlgcnaaRefSum
namespace Go.Proofs.Ytppoikhonlgcnaa
open Go.RowKit
open Sl (Cl Kd)
theorem tk_app (a r : List UInt8) : tk (str (a ++ r)) 0 a.length = (str a, str r, 0) := by
  rw [tk_str (a ++ r) a.length (by rw [List.length_append]; omega), List.take_left, List.drop_left]
theorem tk_app' (n : Nat) (a r : List UInt8) (h : a.length = n) : tk (str (a ++ r)) 0 n = (str a, str r, 0) := by subst h; exact tk_app a r
theorem tk_good (s : List UInt8) (n : Nat) (h : (tk (str s) 0 n).2.2 = 0) : ∃ a r, s = a ++ r ∧ a.length = n ∧ tk (str s) 0 n = (str a, str r, 0) := by
  by_cases hn : n ≤ s.length
  · refine ⟨s.take n, s.drop n, (List.take_append_drop n s).symm, by rw [List.length_take]; omega, tk_str s n hn⟩
  · rw [tk_short (str s) n (.inr (by rw [str_size]; omega))] at h
    cases h
theorem tk_err (s : ByteArray) (e n : Int) (h : e ≠ 0) : (tk s e n).2.2 ≠ 0 := by rw [tk_bad s e n h]; exact h
theorem val_big1 (n : Nat) (h : n < 256) : Oc.val (Oc.big 1 n) = n := Oc.val_big 1 n (by omega)
theorem val_big2 (n : Nat) (h : n < 65536) : Oc.val (Oc.big 2 n) = n := Oc.val_big 2 n (by omega)
theorem val_big4 (n : Nat) (h : n < 4294967296) : Oc.val (Oc.big 4 n) = n := Oc.val_big 4 n (by omega)
theorem big_val' (k : Nat) (l : List UInt8) (h : l.length = k) : Oc.big k (Oc.val l) = l := Oc.big_val k l h
theorem val_lt1 (l : List UInt8) (h : l.length = 1) : Oc.val l < 256 := by have := Oc.val_lt l; rw [h] at this; exact this
theorem val_lt2 (l : List UInt8) (h : l.length = 2) : Oc.val l < 65536 := by have := Oc.val_lt l; rw [h] at this; exact this
theorem val_lt4 (l : List UInt8) (h : l.length = 4) : Oc.val l < 4294967296 := by have := Oc.val_lt l; rw [h] at this; exact this
theorem encKey_short (k : List UInt8) (h : k.length ≤ 255) : Sl.encKey k = Oc.big 1 k.length ++ k := by
  unfold Sl.encKey; rw [Nat.min_eq_left h, List.take_of_length_le h]
theorem ky_app (k r : List UInt8) (h : k.length ≤ 255) : kyR (str (Sl.encKey k ++ r)) 0 = (str k, str r, 0) := by
  unfold kyR
  rw [encKey_short k h, List.append_assoc, show ((1 : Int)) = ((1 : Nat) : Int) from rfl, tk_app' 1 _ _ (Oc.big_length 1 _)]
  simp only [str_data]
  rw [val_big1 _ (by omega), tk_app]
theorem ky_good (s : List UInt8) (h : (kyR (str s) 0).2.2 = 0) : ∃ k r, s = Sl.encKey k ++ r ∧ k.length ≤ 255 ∧ kyR (str s) 0 = (str k, str r, 0) := by
  unfold kyR at h ⊢
  have h1 : (tk (str s) 0 1).2.2 = 0 := by
    cases Classical.em ((tk (str s) 0 1).2.2 = 0) with
    | inl h1 => exact h1
    | inr h1 => exact absurd h (tk_err _ _ _ h1)
  obtain ⟨a, r, rfl, ha, h2⟩ := tk_good s 1 h1
  rw [show ((1 : Int)) = ((1 : Nat) : Int) from rfl, h2] at h ⊢
  simp only [str_data] at h ⊢
  obtain ⟨k, t, rfl, hk, h3⟩ := tk_good r _ h
  have hv := val_lt1 a ha
  refine ⟨k, t, ?_, by omega, h3⟩
  rw [encKey_short k (by omega), hk, big_val' 1 a ha, List.append_assoc]
theorem ky_err (s : ByteArray) (e : Int) (h : e ≠ 0) : (kyR s e).2.2 ≠ 0 := by unfold kyR; exact tk_err _ _ _ (tk_err _ _ _ h)
theorem vl_app (v r : List UInt8) (h : v.length < 65536) : vlR (str (Oc.big 2 v.length ++ (v ++ r))) 0 = (str v, str r, 0) := by
  unfold vlR
  rw [show ((2 : Int)) = ((2 : Nat) : Int) from rfl, tk_app' 2 _ _ (Oc.big_length 2 _)]
  simp only [str_data]
  rw [val_big2 _ h, tk_app]
theorem vl_good (s : List UInt8) (h : (vlR (str s) 0).2.2 = 0) : ∃ v r, s = Oc.big 2 v.length ++ (v ++ r) ∧ v.length < 65536 ∧ vlR (str s) 0 = (str v, str r, 0) := by
  unfold vlR at h ⊢
  have h1 : (tk (str s) 0 2).2.2 = 0 := by
    cases Classical.em ((tk (str s) 0 2).2.2 = 0) with
    | inl h1 => exact h1
    | inr h1 => exact absurd h (tk_err _ _ _ h1)
  obtain ⟨a, r, rfl, ha, h2⟩ := tk_good s 2 h1
  rw [show ((2 : Int)) = ((2 : Nat) : Int) from rfl, h2] at h ⊢
  simp only [str_data] at h ⊢
  obtain ⟨k, t, rfl, hk, h3⟩ := tk_good r _ h
  have hv := val_lt2 a ha
  refine ⟨k, t, ?_, by omega, h3⟩
  rw [hk, big_val' 2 a ha]
theorem vl_err (s : ByteArray) (e : Int) (h : e ≠ 0) : (vlR s e).2.2 ≠ 0 := by unfold vlR; exact tk_err _ _ _ (tk_err _ _ _ h)
/-- The cells that can be read. -/
def canC (x : Cl) : Prop := x.key.length ≤ 255 ∧ x.chain < 4294967296 ∧ x.long < 4294967296 ∧ (x.chain ≠ 0 → x.val = []) ∧ (x.chain = 0 → x.long = 0 ∧ x.val.length < 65536)
def canK (x : Kd) : Prop := x.key.length ≤ 255 ∧ x.page < 4294967296
/-- One cell by the document's own steps: the cell, what is left, the error, whether it is none at all. -/
def rcR (leaf : Bool) (s : ByteArray) (e : Int) : Cl × ByteArray × Int × Bool :=
  let K := kyR s e
  if leaf then
    let O := tk K.2.1 K.2.2 1
    let n := Oc.val O.1.data.toList
    if n = 0 then
      let V := vlR O.2.1 O.2.2
      (⟨K.1.data.toList, V.1.data.toList, 0, 0⟩, V.2.1, V.2.2, false)
    else
      let A := tk O.2.1 O.2.2 4
      let B := tk A.2.1 A.2.2 4
      (⟨K.1.data.toList, [], Oc.val A.1.data.toList, Oc.val B.1.data.toList⟩, B.2.1, B.2.2, decide (1 < n ∨ n = 1 ∧ Oc.val A.1.data.toList = 0))
  else
    let P := tk K.2.1 K.2.2 4
    (⟨K.1.data.toList, [], Oc.val P.1.data.toList, 0⟩, P.2.1, P.2.2, false)
def canR (leaf : Bool) (x : Cl) : Prop := if leaf then canC x else x.key.length ≤ 255 ∧ x.chain < 4294967296 ∧ x.val = [] ∧ x.long = 0
theorem rc_err (leaf : Bool) (s : ByteArray) (e : Int) (h : e ≠ 0) : (rcR leaf s e).2.2.1 ≠ 0 := by
  unfold rcR
  have h1 := ky_err s e h
  cases leaf
  · exact tk_err _ _ _ h1
  · have h2 := tk_err (kyR s e).2.1 (kyR s e).2.2 1 h1
    simp only [if_true]
    split
    · exact vl_err _ _ h2
    · exact tk_err _ _ _ (tk_err _ _ _ h2)
theorem rc_kid {s : ByteArray} {e : Int} {K P : ByteArray × ByteArray × Int} (hK : kyR s e = K) (hP : tk K.2.1 K.2.2 4 = P) : rcR false s e = (⟨K.1.data.toList, [], Oc.val P.1.data.toList, 0⟩, P.2.1, P.2.2, false) := by
  subst hK; subst hP; rfl
theorem rc_zero {s : ByteArray} {e : Int} {K O V : ByteArray × ByteArray × Int} (hK : kyR s e = K) (hO : tk K.2.1 K.2.2 1 = O) (hn : Oc.val O.1.data.toList = 0) (hV : vlR O.2.1 O.2.2 = V) :
    rcR true s e = (⟨K.1.data.toList, V.1.data.toList, 0, 0⟩, V.2.1, V.2.2, false) := by
  subst hK; subst hO; subst hV
  unfold rcR
  simp only [if_true]
  rw [if_pos hn]
theorem rc_more {s : ByteArray} {e : Int} {K O A B : ByteArray × ByteArray × Int} (hK : kyR s e = K) (hO : tk K.2.1 K.2.2 1 = O) (hn : Oc.val O.1.data.toList ≠ 0) (hA : tk O.2.1 O.2.2 4 = A) (hB : tk A.2.1 A.2.2 4 = B) :
    rcR true s e = (⟨K.1.data.toList, [], Oc.val A.1.data.toList, Oc.val B.1.data.toList⟩, B.2.1, B.2.2, decide (1 < Oc.val O.1.data.toList ∨ Oc.val O.1.data.toList = 1 ∧ Oc.val A.1.data.toList = 0)) := by
  subst hK; subst hO; subst hA; subst hB
  unfold rcR
  simp only [if_true]
  rw [if_neg hn]
theorem rc_app (leaf : Bool) (x : Cl) (r : List UInt8) (h : canR leaf x) : rcR leaf (str ((Sl.shR leaf).enc x ++ r)) 0 = (x, str r, 0, false) := by
  obtain ⟨key, val, chain, long⟩ := x
  cases leaf
  · obtain ⟨h1, h2, h3, h4⟩ := h
    simp only at h1 h2 h3 h4
    subst h3; subst h4
    show rcR false (str (Sl.encK ⟨key, chain⟩ ++ r)) 0 = _
    unfold Sl.encK
    rw [List.append_assoc, rc_kid (ky_app key _ h1) (tk_app' 4 _ _ (Oc.big_length 4 chain))]
    simp only [str_data, val_big4 _ h2]
  · obtain ⟨h1, h2, h3, h4, h5⟩ : canC ⟨key, val, chain, long⟩ := h
    simp only at h1 h2 h3 h4 h5
    show rcR true (str (Sl.encC ⟨key, val, chain, long⟩ ++ r)) 0 = _
    unfold Sl.encC
    by_cases h0 : chain = 0
    · obtain ⟨h6, h7⟩ := h5 h0
      subst h0; subst h6
      rw [if_neg (by simp), Nat.min_eq_left (show val.length ≤ 65535 by omega), List.take_of_length_le (show val.length ≤ 65535 by omega)]
      rw [List.append_assoc, List.append_assoc, List.append_assoc, rc_zero (ky_app key _ h1) (tk_app' 1 _ _ (Oc.big_length 1 0)) (val_big1 0 (by omega)) (vl_app val r h7)]
      simp only [str_data]
    · have h6 := h4 h0
      subst h6
      rw [if_pos h0]
      rw [List.append_assoc, List.append_assoc, List.append_assoc, rc_more (ky_app key _ h1) (tk_app' 1 _ _ (Oc.big_length 1 1)) (by show Oc.val (Oc.big 1 1) ≠ 0; rw [val_big1 1 (by omega)]; omega) (tk_app' 4 _ _ (Oc.big_length 4 chain)) (tk_app' 4 _ _ (Oc.big_length 4 long))]
      simp only [str_data, val_big4 _ h2, val_big4 _ h3, val_big1 1 (show 1 < 256 by omega)]
      simp [h0]
theorem rc_good (leaf : Bool) (s : List UInt8) (h : (rcR leaf (str s) 0).2.2.1 = 0) (h2 : (rcR leaf (str s) 0).2.2.2 = false) :
    ∃ x r, s = (Sl.shR leaf).enc x ++ r ∧ canR leaf x ∧ rcR leaf (str s) 0 = (x, str r, 0, false) := by
  have hk : (kyR (str s) 0).2.2 = 0 := by
    cases Classical.em ((kyR (str s) 0).2.2 = 0) with
    | inl h1 => exact h1
    | inr h1 =>
      exfalso
      cases leaf
      · exact tk_err _ _ _ h1 h
      · have h3 := tk_err (kyR (str s) 0).2.1 (kyR (str s) 0).2.2 1 h1
        by_cases hn : Oc.val (tk (kyR (str s) 0).2.1 (kyR (str s) 0).2.2 1).1.data.toList = 0
        · rw [rc_zero rfl rfl hn rfl] at h; exact vl_err _ _ h3 h
        · rw [rc_more rfl rfl hn rfl rfl] at h; exact tk_err _ _ _ (tk_err _ _ _ h3) h
  obtain ⟨k, r, rfl, hkl, hK⟩ := ky_good s hk
  cases leaf
  · rw [rc_kid hK rfl] at h ⊢
    obtain ⟨a, t, rfl, ha, h3⟩ := tk_good r 4 h
    refine ⟨⟨k, [], Oc.val a, 0⟩, t, ?_, ⟨hkl, val_lt4 a ha, rfl, rfl⟩, ?_⟩
    · show _ = Sl.encK ⟨k, Oc.val a⟩ ++ t
      unfold Sl.encK
      rw [big_val' 4 a ha, List.append_assoc]
    · rw [show ((4 : Int)) = ((4 : Nat) : Int) from rfl, h3]; rfl
  · have ho : (tk (str r) 0 1).2.2 = 0 := by
      cases Classical.em ((tk (str r) 0 1).2.2 = 0) with
      | inl h1 => exact h1
      | inr h1 =>
        exfalso
        by_cases hn : Oc.val (tk (str r) 0 1).1.data.toList = 0
        · rw [rc_zero hK rfl hn rfl] at h; exact vl_err _ _ h1 h
        · rw [rc_more hK rfl hn rfl rfl] at h; exact tk_err _ _ _ (tk_err _ _ _ h1) h
    obtain ⟨o, t, rfl, hol, hO⟩ := tk_good r 1 ho
    have hov := val_lt1 o hol
    by_cases hn : Oc.val o = 0
    · rw [rc_zero hK hO hn rfl] at h ⊢
      obtain ⟨v, u, rfl, hv, hV⟩ := vl_good t h
      refine ⟨⟨k, v, 0, 0⟩, u, ?_, ⟨hkl, show 0 < 4294967296 by decide, show 0 < 4294967296 by decide, fun h => absurd rfl h, fun _ => ⟨rfl, hv⟩⟩, ?_⟩
      · show _ = Sl.encC ⟨k, v, 0, 0⟩ ++ u
        unfold Sl.encC
        rw [if_neg (by simp), Nat.min_eq_left (show v.length ≤ 65535 by omega), List.take_of_length_le (show v.length ≤ 65535 by omega)]
        rw [show o = Oc.big 1 0 by rw [← hn, big_val' 1 o hol]]
        simp only [List.append_assoc]
      · rw [hV]; rfl
    · rw [rc_more hK hO hn rfl rfl] at h h2 ⊢
      have hA0 : (tk (str t) 0 4).2.2 = 0 := by
        cases Classical.em ((tk (str t) 0 4).2.2 = 0) with
        | inl h1 => exact h1
        | inr h1 => exact absurd h (tk_err _ _ _ h1)
      obtain ⟨a, u, rfl, ha, hA⟩ := tk_good t 4 hA0
      rw [show ((4 : Int)) = ((4 : Nat) : Int) from rfl] at h h2 ⊢
      simp only [str_data] at h2
      rw [hA] at h h2 ⊢
      simp only [str_data] at h h2 ⊢
      obtain ⟨b, z, rfl, hb, hB⟩ := tk_good u 4 h
      rw [hB]
      have h4 : ¬ (1 < Oc.val o ∨ Oc.val o = 1 ∧ Oc.val a = 0) := of_decide_eq_false h2
      clear h2
      have hn1 : Oc.val o = 1 := by omega
      have hc : Oc.val a ≠ 0 := by omega
      refine ⟨⟨k, [], Oc.val a, Oc.val b⟩, z, ?_, ⟨hkl, val_lt4 a ha, val_lt4 b hb, fun _ => rfl, fun h => absurd h hc⟩, ?_⟩
      · show _ = Sl.encC ⟨k, [], Oc.val a, Oc.val b⟩ ++ z
        unfold Sl.encC
        rw [if_pos hc, big_val' 4 a ha, big_val' 4 b hb]
        rw [show o = Oc.big 1 1 from (by have h9 := big_val' 1 o hol; rw [hn1] at h9; exact h9.symm)]
        simp only [List.append_assoc]
      · simp [hn1, hc]; rfl
end Go.Proofs.Ytppoikhonlgcnaa
