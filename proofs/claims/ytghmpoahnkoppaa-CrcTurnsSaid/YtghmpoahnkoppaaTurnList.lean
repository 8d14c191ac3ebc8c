/- Plain lists: the turned text of the law CrcTurns, and that its sum is another. -/
import Derived.Test.YtghmpoahnkoppaaTurnMath
namespace Go.Proofs.Ytghmpoahnkoppaa
/-- Byte number j of the text, of which i bytes from k on are turned. -/
def tb (s : ByteArray) (k t i j : Nat) : Nat := if k ≤ j ∧ j < k + i then (s.data.toList.getD j 0).toNat ^^^ (t / 256 ^ (j - k) % 256) else (s.data.toList.getD j 0).toNat
theorem tb_lt (s : ByteArray) (k t i j : Nat) : tb s k t i j < 256 := by
  unfold tb
  split
  · exact Nat.xor_lt_two_pow (n := 8) (UInt8.toNat_lt _) (by omega)
  · exact UInt8.toNat_lt _
theorem tb_next (s : ByteArray) (k t m : Nat) : tb s k t (m + 1) (k + m) = tb s k t m (k + m) ^^^ (t / 256 ^ m % 256) := by
  unfold tb
  rw [if_pos (by omega), if_neg (by omega), show k + m - k = m by omega]
theorem tb_other (s : ByteArray) (k t m j : Nat) (h : j ≠ k + m) : tb s k t (m + 1) j = tb s k t m j := by
  unfold tb
  by_cases hj : k ≤ j ∧ j < k + m
  · rw [if_pos (by omega), if_pos hj]
  · rw [if_neg (by omega), if_neg hj]
def turned (s : ByteArray) (k t : Nat) : List UInt8 := (List.range s.size).map fun j => UInt8.ofNat (tb s k t 4 j)
theorem turned_length (s : ByteArray) (k t : Nat) : (turned s k t).length = s.size := by simp [turned]
theorem turned_at (s : ByteArray) (k t j : Nat) (h : j < (turned s k t).length) : ((turned s k t)[j]).toNat = tb s k t 4 j := by
  simp only [turned, List.getElem_map, List.getElem_range, UInt8.toNat_ofNat']
  exact Nat.mod_eq_of_lt (tb_lt _ _ _ _ _)
theorem split_four (l : List UInt8) (k : Nat) (h : k + 3 < l.length) : l = l.take k ++ ([l[k], l[k + 1], l[k + 2], l[k + 3]] ++ l.drop (k + 4)) := by
  have e : l.drop k = [l[k], l[k + 1], l[k + 2], l[k + 3]] ++ l.drop (k + 4) := by
    rw [List.drop_eq_getElem_cons (by omega), List.drop_eq_getElem_cons (i := k + 1) (by omega), List.drop_eq_getElem_cons (i := k + 1 + 1) (by omega), List.drop_eq_getElem_cons (i := k + 1 + 1 + 1) (by omega)]
    rfl
  rw [← e, List.take_append_drop]
theorem list_at (s : ByteArray) (j : Nat) (h : j < s.data.toList.length) : (s.data.toList.getD j 0).toNat = (s.data.toList[j]).toNat := by
  rw [List.getD_eq_getElem?_getD, List.getElem?_eq_getElem h]; rfl
theorem turned_same (s : ByteArray) (k t j : Nat) (h : j < s.data.toList.length) (h2 : j < (turned s k t).length) (hj : ¬ (k ≤ j ∧ j < k + 4)) : (turned s k t)[j] = s.data.toList[j] := by
  apply UInt8.toNat_inj.1
  rw [turned_at, ← list_at s j h]
  unfold tb
  rw [if_neg hj]
theorem turned_here (s : ByteArray) (k t j : Nat) (h : j < s.data.toList.length) (h2 : j < (turned s k t).length) (hj : k ≤ j ∧ j < k + 4) : (s.data.toList[j]).toNat ^^^ ((turned s k t)[j]).toNat = t / 256 ^ (j - k) % 256 := by
  rw [turned_at, ← list_at s j h]
  unfold tb
  rw [if_pos hj, ← Nat.xor_assoc, Nat.xor_self, Nat.zero_xor]
theorem turned_ne (s : ByteArray) (k t : Nat) (hk : k + 3 < s.size) (ht : 0 < t) (ht2 : t < 4294967296) : Crc.add Crc.byte 0 (turned s k t) ≠ Crc.add Crc.byte 0 s.data.toList := by
  have hL : s.data.toList.length = s.size := by simp
  have hT := turned_length s k t
  have e1 : (turned s k t).take k = s.data.toList.take k := by
    apply List.ext_getElem (by rw [List.length_take, List.length_take, hL, hT])
    intro j h1 h2
    have hj : j < k := by rw [List.length_take] at h1; omega
    rw [List.getElem_take, List.getElem_take]
    exact turned_same s k t j (by omega) (by omega) (by omega)
  have e2 : (turned s k t).drop (k + 4) = s.data.toList.drop (k + 4) := by
    apply List.ext_getElem (by rw [List.length_drop, List.length_drop, hL, hT])
    intro j h1 h2
    rw [List.length_drop] at h1
    rw [List.getElem_drop, List.getElem_drop]
    exact turned_same s k t (k + 4 + j) (by omega) (by omega) (by omega)
  rw [split_four (turned s k t) k (by omega), split_four s.data.toList k (by omega), e1, e2]
  intro he
  refine Crc.add_four_ne ?_ he.symm
  rintro ⟨h0, h1, h2, h3⟩
  rw [turned_here s k t k (by omega) (by omega) (by omega)] at h0
  rw [turned_here s k t (k + 1) (by omega) (by omega) (by omega)] at h1
  rw [turned_here s k t (k + 2) (by omega) (by omega) (by omega)] at h2
  rw [turned_here s k t (k + 3) (by omega) (by omega) (by omega)] at h3
  rw [show k - k = 0 by omega] at h0
  rw [show k + 1 - k = 1 by omega] at h1
  rw [show k + 2 - k = 2 by omega] at h2
  rw [show k + 3 - k = 3 by omega] at h3
  simp only [Nat.reducePow] at h0 h1 h2 h3
  omega
end Go.Proofs.Ytghmpoahnkoppaa
