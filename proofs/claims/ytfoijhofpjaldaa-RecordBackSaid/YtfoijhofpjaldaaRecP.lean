/- What is written is read as it was; what is read would be written so: the plain part. -/
import Derived.Test.YtfoijhofpjaldaaRecN
import Derived.Test.YtfoijhofpjaldaaRecK
import Derived.Test.YtfoijhofpjaldaaTkStr
set_option maxRecDepth 100000
set_option maxHeartbeats 4000000
set_option linter.unusedVariables false
namespace Go.Proofs.Ytfoijhofpjaldaa
open Go.RowKit
theorem verG_str {α : Type} (z : α) (get : ByteArray → Int → α × ByteArray × Int) (l : List UInt8) : verG z get (str (1 :: l)) 0 = if (get (str l) 0).2.2 = 0 then get (str l) 0 else (z, (get (str l) 0).2.1, (get (str l) 0).2.2) := by
  have h : tk (str (1 :: l)) 0 1 = (str [1], str l, 0) := tk_str [1] l 1 rfl
  unfold verG
  simp only [h]
  rw [if_pos (show Oc.val (str [1]).data.toList = 1 from rfl)]
theorem txt_long (l : List UInt8) (most : Nat) (h : l.length < 4294967296) (hm : most < l.length) : (txt (str (Oc.big 4 l.length ++ l)) 0 most).2.2 = 5 := by
  rw [txt_eq]
  have h4 : tk (str (Oc.big 4 l.length ++ l)) 0 4 = (str (Oc.big 4 l.length), str l, 0) := tk_str _ _ 4 (Oc.big_length _ _)
  rw [h4, str_data, Oc.val_big 4 _ h, if_pos (by rw [if_pos (by omega)]; omega)]
  rfl
theorem txt_own (s : ByteArray) (most : Nat) (h : s.size < 4294967296) (hm : s.size ≤ most) : txt (str (Oc.big 4 s.size ++ s.data.toList)) 0 most = (s, str [], 0) := by
  have := txt_str s.data.toList [] most (by simpa using h) (by simpa using hm)
  rw [List.append_nil] at this
  simpa [str_eq] using this
theorem fin_nil : fin (str []) 0 = 0 := rfl
theorem backQ (nm : ByteArray) (q : Qu) (hq : q.ok) (h : q.dead.size ≤ 32) : readG zQ (getQ nm) (str (1 :: encQ q)) = (⟨nm, q.most, q.ttl, q.tries, q.dead⟩, 0) := by
  obtain ⟨ha, hb, hc, hd⟩ := hq
  have hg : getQ nm (str (encQ q)) 0 = (⟨nm, q.most, q.ttl, q.tries, q.dead⟩, str [], 0) := by
    unfold getQ encQ
    rw [show ((4 : Int)) = ((4 : Nat) : Int) from rfl, show ((8 : Int)) = ((8 : Nat) : Int) from rfl]
    simp only [tk_str _ _ 4 (Oc.big_length 4 _), tk_str _ _ 8 (Oc.big_length 8 _)]
    rw [show ((32 : Int)) = ((32 : Nat) : Int) from rfl, txt_own q.dead 32 (by omega) h]
    simp only [str_data]
    rw [Oc.val_big 4 _ ha, Oc.val_big 8 _ hb, Oc.val_big 4 _ hc]
  unfold readG
  rw [verG_str, hg]
  rfl
theorem backQ_long (nm : ByteArray) (q : Qu) (hq : q.ok) (h : 32 < q.dead.size) : readG zQ (getQ nm) (str (1 :: encQ q)) = (zQ, 5) := by
  obtain ⟨ha, hb, hc, hd⟩ := hq
  have hg : (getQ nm (str (encQ q)) 0).2.2 = 5 := by
    unfold getQ encQ
    rw [show ((4 : Int)) = ((4 : Nat) : Int) from rfl, show ((8 : Int)) = ((8 : Nat) : Int) from rfl]
    simp only [tk_str _ _ 4 (Oc.big_length 4 _), tk_str _ _ 8 (Oc.big_length 8 _)]
    have := txt_long q.dead.data.toList 32 (by simp; omega) (by simpa using h)
    simpa using this
  obtain ⟨r, hv⟩ : ∃ r, verG zQ (getQ nm) (str (1 :: encQ q)) 0 = (zQ, r, 5) := ⟨_, by rw [verG_str, if_neg (by rw [hg]; decide), hg]⟩
  unfold readG
  rw [hv]
  simp only
  rw [fin_err _ _ (by decide), if_neg (by decide)]
theorem backM (qu : ByteArray) (i : Nat) (m : Ms) (hm : m.ok) (h : m.body.size ≤ 32768) : readG zM (getM qu i) (str (1 :: encM m)) = (⟨qu, i, m.tries, m.expiry, m.body⟩, 0) := by
  obtain ⟨ha, hb, hd⟩ := hm
  have hg : getM qu i (str (encM m)) 0 = (⟨qu, i, m.tries, m.expiry, m.body⟩, str [], 0) := by
    unfold getM encM
    rw [show ((4 : Int)) = ((4 : Nat) : Int) from rfl, show ((8 : Int)) = ((8 : Nat) : Int) from rfl]
    simp only [tk_str _ _ 4 (Oc.big_length 4 _), tk_str _ _ 8 (Oc.big_length 8 _)]
    rw [show ((32768 : Int)) = ((32768 : Nat) : Int) from rfl, txt_own m.body 32768 (by omega) h]
    simp only [str_data]
    rw [Oc.val_big 4 _ ha, Oc.val_big 8 _ hb]
  unfold readG
  rw [verG_str, hg]
  rfl
theorem getW_str (n : Nat) (hn : n < 65536) (m : List UInt8) : getW (str (Oc.big 2 n ++ m)) 0 = (n, str m, 0) := by
  unfold getW
  rw [show ((2 : Int)) = ((2 : Nat) : Int) from rfl]
  simp only [tk_str _ m 2 (Oc.big_length 2 n)]
  rw [str_data, Oc.val_big 2 n hn]
theorem verW_str (n : Nat) (hn : n < 65536) (m : List UInt8) : verG 0 getW (str (encW1 n ++ m)) 0 = (n, str m, 0) := by
  show verG 0 getW (str (1 :: (Oc.big 2 n ++ m))) 0 = _
  rw [verG_str, getW_str n hn]
  rfl
theorem backW (n : Nat) (hn : n < 65536) : readG 0 getW (str (1 :: Oc.big 2 n)) = (n, 0) := by
  have := verW_str n hn []
  rw [List.append_nil] at this
  unfold readG
  rw [show (1 :: Oc.big 2 n) = encW1 n from rfl, this]
  rfl
theorem backL (n : Nat) (hn : n < 65536) : listG (verG 0 getW) (str (encWs [n, 1])) 2 = ([n, 1], 0) := by
  have h4 : tk (str (encWs [n, 1])) 0 4 = (str (Oc.big 4 2), str (encW1 n ++ (encW1 1 ++ [])), 0) := by
    rw [show encWs [n, 1] = Oc.big 4 2 ++ (encW1 n ++ (encW1 1 ++ [])) by simp [encWs], show ((4 : Int)) = ((4 : Nat) : Int) from rfl]
    exact tk_str (Oc.big 4 2) (encW1 n ++ (encW1 1 ++ [])) 4 (Oc.big_length _ _)
  have hc : cnt (str (encWs [n, 1])) 0 2 6 = (2, str (encW1 n ++ (encW1 1 ++ [])), 0) := by
    unfold cnt
    simp only [h4]
    rw [str_data, Oc.val_big 4 2 (by decide), if_neg (by decide)]
  have hg : getsG (verG 0 getW) 2 (str (encW1 n ++ (encW1 1 ++ []))) 0 = ([n, 1], str [], 0) := by
    rw [getsG_succ, verW_str n hn]
    simp only
    rw [getsG_succ, verW_str 1 (by decide)]
    rfl
  unfold listG
  rw [hc]
  simp only
  rw [hg]
  rfl
theorem tk_inv (s : ByteArray) (e : Int) (k : Nat) (h : (tk s e k).2.2 = 0) : e = 0 ∧ s.data.toList = (tk s e k).1.data.toList ++ (tk s e k).2.1.data.toList ∧ (tk s e k).1.data.toList.length = k := by
  by_cases he : e = 0
  · subst he
    by_cases hk : s.size < k
    · rw [tk_short s k (.inr (by omega))] at h
      cases h
    · rw [tk_ok s k (by omega)]
      refine ⟨rfl, ?_, ?_⟩
      · simp only [ByteArray.data_extract, Array.toList_extract]
        have hz : s.size = s.data.toList.length := rfl
        rw [hz]
        generalize s.data.toList = l
        simp only [List.extract_eq_take_drop, List.drop_zero, Nat.sub_zero]
        rw [List.take_of_length_le (l := List.drop k l) (by rw [List.length_drop]; exact Nat.le_refl _), List.take_append_drop]
      · simp
        omega
  · rw [tk_bad s e k he] at h
    exact absurd h he
theorem txt_inv (s : ByteArray) (e : Int) (most : Nat) (h : (txt s e most).2.2 = 0) : e = 0 ∧ (txt s e most).1.size ≤ most ∧ s.data.toList = Oc.big 4 (txt s e most).1.size ++ ((txt s e most).1.data.toList ++ (txt s e most).2.1.data.toList) := by
  rw [txt_eq] at h ⊢
  rw [show ((4 : Int)) = ((4 : Nat) : Int) from rfl] at h ⊢
  have hi := tk_inv s e 4
  have hv := Nat.lt_of_lt_of_le (Oc.val_lt (tk s e (4 : Nat)).1.data.toList) (Nat.pow_le_pow_right (by omega) (tk_size s e 4))
  revert h hi hv
  generalize tk s e ((4 : Nat) : Int) = A
  intro h hi hv
  by_cases hc : (Oc.val A.1.data.toList : Int) > (if 0 ≤ (most : Int) then (most : Int) else 0)
  · rw [if_pos hc] at h
    simp only at h
    by_cases h0 : A.2.2 = 0
    · rw [if_pos h0] at h; cases h
    · rw [if_neg h0] at h; exact absurd h h0
  · rw [if_neg hc] at h ⊢
    have hj := tk_inv A.2.1 A.2.2 (Oc.val A.1.data.toList) h
    obtain ⟨h1, h2, h3⟩ := hj
    obtain ⟨h4, h5, h6⟩ := hi h1
    have hsz : (tk A.2.1 A.2.2 (Oc.val A.1.data.toList : Nat)).1.size = Oc.val A.1.data.toList := by simpa using h3
    rw [if_pos (by omega)] at hc
    refine ⟨h4, by omega, ?_⟩
    rw [hsz, Oc.big_val 4 _ h6, h5, h2]
theorem fin_zero (s : ByteArray) (e : Int) (h : fin s e = 0) : e = 0 ∧ s.data.toList = [] := by
  unfold fin at h
  by_cases he : e = 0 ∧ 0 < s.size
  · rw [if_pos he] at h; cases h
  · rw [if_neg he] at h
    refine ⟨h, ?_⟩
    have : ¬ 0 < s.size := fun hh => he ⟨h, hh⟩
    have h2 : s.data.toList.length = 0 := by show s.size = 0; omega
    exact List.length_eq_zero_iff.1 h2
theorem readM_inv (qu : ByteArray) (i : Nat) (s : ByteArray) (y : Ms) (h : readG zM (getM qu i) s = (y, 0)) : str (1 :: encM y) = s ∧ y.ok := by
  unfold readG verG at h
  rw [show ((1 : Int)) = ((1 : Nat) : Int) from rfl] at h
  have hO := tk_inv s 0 1
  revert h hO
  generalize tk s 0 ((1 : Nat) : Int) = O
  intro h hO
  simp only at h
  by_cases hv : Oc.val O.1.data.toList = 1
  · rw [if_pos hv] at h
    by_cases hf : (getM qu i O.2.1 O.2.2).2.2 = 0
    · rw [if_pos hf] at h
      by_cases hz : fin (getM qu i O.2.1 O.2.2).2.1 (getM qu i O.2.1 O.2.2).2.2 = 0
      · rw [if_pos hz] at h
        obtain ⟨_, hnil⟩ := fin_zero _ _ hz
        have hy : y = (getM qu i O.2.1 O.2.2).1 := by cases h; rfl
        subst hy
        unfold getM at hf hnil ⊢
        simp only at hf hnil ⊢
        rw [show ((4 : Int)) = ((4 : Nat) : Int) from rfl, show ((8 : Int)) = ((8 : Nat) : Int) from rfl, show ((32768 : Int)) = ((32768 : Nat) : Int) from rfl] at *
        have iA := tk_inv O.2.1 O.2.2 4
        have vA := Nat.lt_of_lt_of_le (Oc.val_lt (tk O.2.1 O.2.2 (4 : Nat)).1.data.toList) (Nat.pow_le_pow_right (by omega) (tk_size O.2.1 O.2.2 4))
        revert hf hnil iA vA
        generalize tk O.2.1 O.2.2 ((4 : Nat) : Int) = A
        intro hf hnil iA vA
        have iB := tk_inv A.2.1 A.2.2 8
        have vB := Nat.lt_of_lt_of_le (Oc.val_lt (tk A.2.1 A.2.2 (8 : Nat)).1.data.toList) (Nat.pow_le_pow_right (by omega) (tk_size A.2.1 A.2.2 8))
        revert hf hnil iB vB
        generalize tk A.2.1 A.2.2 ((8 : Nat) : Int) = B
        intro hf hnil iB vB
        have iD := txt_inv B.2.1 B.2.2 32768
        revert hf hnil iD
        generalize txt B.2.1 B.2.2 ((32768 : Nat) : Int) = D
        intro hf hnil iD
        obtain ⟨d1, d2, d3⟩ := iD hf
        obtain ⟨b1, b2, b3⟩ := iB d1
        obtain ⟨a1, a2, a3⟩ := iA b1
        obtain ⟨_, o2, o3⟩ := hO a1
        refine ⟨?_, ?_, ?_, ?_⟩
        · unfold encM
          simp only
          rw [Oc.big_val 4 _ a3, Oc.big_val 8 _ b3]
          have hD : D.1.data.toList = D.1.data.toList ++ D.2.1.data.toList := by rw [hnil, List.append_nil]
          rw [hD, ← d3, ← b2, ← a2]
          have h1 : O.1.data.toList = [1] := by
            have := Oc.big_val 1 _ o3
            rw [hv] at this
            exact this.symm
          rw [show (1 :: O.2.1.data.toList) = [1] ++ O.2.1.data.toList from rfl, ← h1, ← o2]
          exact str_eq s
        · exact Nat.lt_of_lt_of_le vA (by decide)
        · exact Nat.lt_of_lt_of_le vB (by decide)
        · show D.1.size < 100000; omega
      · rw [if_neg hz] at h
        exact absurd (congrArg Prod.snd h) hz
    · rw [if_neg hf] at h
      simp only at h
      rw [fin_err _ _ hf, if_neg hf] at h
      exact absurd (congrArg Prod.snd h) hf
  · rw [if_neg hv] at h
    simp only at h
    have hx : (if O.2.2 = 0 then (4 : Int) else O.2.2) ≠ 0 := by split <;> first | decide | assumption
    rw [fin_err _ _ hx, if_neg hx] at h
    exact absurd (congrArg Prod.snd h) hx
end Go.Proofs.Ytfoijhofpjaldaa
