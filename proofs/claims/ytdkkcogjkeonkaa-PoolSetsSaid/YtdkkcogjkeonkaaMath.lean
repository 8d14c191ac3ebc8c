/- Plain arithmetic of numbers as bytes, highest first; nothing of the program. -/
set_option maxRecDepth 100000
set_option maxHeartbeats 4000000
set_option linter.unusedVariables false
namespace Go.Proofs.Ytdkkcogjkeonkaa
namespace Oc
def big : Nat → Nat → List UInt8
  | 0, _ => []
  | k + 1, n => big k (n / 256) ++ [UInt8.ofNat (n % 256)]
def val (l : List UInt8) : Nat := l.foldl (fun a b => a * 256 + b.toNat) 0
theorem big_length : ∀ k n, (big k n).length = k
  | 0, _ => rfl
  | k + 1, n => by unfold big; rw [List.length_append, big_length]; rfl
theorem val_snoc (l : List UInt8) (b : UInt8) : val (l ++ [b]) = val l * 256 + b.toNat := by
  unfold val; rw [List.foldl_append]; rfl
theorem foldl_lt : ∀ (l : List UInt8) (a : Nat), l.foldl (fun a b => a * 256 + b.toNat) a < (a + 1) * 256 ^ l.length
  | [], a => by simp
  | b :: l, a => by
    have h := foldl_lt l (a * 256 + b.toNat)
    have hb := b.toNat_lt
    rw [List.foldl_cons, List.length_cons, Nat.pow_succ]
    refine Nat.lt_of_lt_of_le h ?_
    rw [Nat.mul_comm (256 ^ l.length) 256, ← Nat.mul_assoc]
    exact Nat.mul_le_mul_right _ (by omega)
theorem val_lt (l : List UInt8) : val l < 256 ^ l.length := by
  have := foldl_lt l 0
  simpa [val] using this
theorem val_big : ∀ k n, n < 256 ^ k → val (big k n) = n
  | 0, n, h => by
    have : n = 0 := by simpa using h
    subst this; rfl
  | k + 1, n, h => by
    unfold big
    rw [val_snoc, val_big k (n / 256) (by rw [Nat.pow_succ] at h; omega)]
    have : (UInt8.ofNat (n % 256)).toNat = n % 256 := by
      rw [UInt8.toNat_ofNat']; omega
    omega
theorem big_mod : ∀ k n, big k (n % 256 ^ k) = big k n
  | 0, _ => rfl
  | k + 1, n => by
    unfold big
    have h1 : n % 256 ^ (k + 1) / 256 = n / 256 % 256 ^ k := by
      rw [Nat.pow_succ, Nat.mul_comm, Nat.mod_mul_right_div_self]
    have h2 : n % 256 ^ (k + 1) % 256 = n % 256 := by
      rw [Nat.pow_succ, Nat.mod_mul_left_mod]
    rw [h1, h2, big_mod k]
theorem big_succ (k n : Nat) : big (k + 1) n = big k (n / 256) ++ [UInt8.ofNat (n % 256)] := rfl
theorem big_add : ∀ j k n, big (j + k) n = big j (n / 256 ^ k) ++ big k n
  | j, 0, n => by simp [big]
  | j, k + 1, n => by
    rw [← Nat.add_assoc, big_succ, big_succ, big_add j k, List.append_assoc, Nat.div_div_eq_div_mul, Nat.pow_succ, Nat.mul_comm 256]
theorem snoc_of_length {k : Nat} {l : List UInt8} (h : l.length = k + 1) : ∃ m b, l = m ++ [b] ∧ m.length = k := by
  have hne : l ≠ [] := by intro e; rw [e] at h; cases h
  exact ⟨l.dropLast, l.getLast hne, (List.dropLast_concat_getLast hne).symm, by rw [List.length_dropLast, h]; rfl⟩
theorem big_val : ∀ (k : Nat) (l : List UInt8), l.length = k → big k (val l) = l
  | 0, l, h => by cases l with | nil => rfl | cons _ _ => cases h
  | k + 1, l, h => by
    obtain ⟨m, b, rfl, hm⟩ := snoc_of_length h
    have hb := b.toNat_lt
    rw [val_snoc, big_succ, show (val m * 256 + b.toNat) / 256 = val m by omega, show (val m * 256 + b.toNat) % 256 = b.toNat by omega, big_val k m hm, UInt8.ofNat_toNat]
theorem big_at : ∀ (k n j : Nat), j < k → (big k n)[j]? = some (UInt8.ofNat (n / 256 ^ (k - 1 - j) % 256))
  | 0, _, _, h => by omega
  | k + 1, n, j, h => by
    rw [big_succ]
    by_cases hj : j < k
    · rw [List.getElem?_append_left (by rw [big_length]; exact hj), big_at k (n / 256) j hj, Nat.div_div_eq_div_mul]
      rw [show k + 1 - 1 - j = k - 1 - j + 1 by omega, Nat.pow_succ, Nat.mul_comm 256]
    · obtain rfl : j = k := by omega
      rw [List.getElem?_append_right (by rw [big_length]; exact Nat.le_refl _), big_length, Nat.sub_self]
      simp
def dig (n m j : Nat) : Nat := if 7 - j < m then n / 256 ^ (7 - j) % 256 else 0
theorem dig_zero (n j : Nat) : dig n 0 j = 0 := rfl
theorem dig_same (n m : Nat) (h : m < 8) : dig n (m + 1) (7 - m) = n / 256 ^ m % 256 := by
  unfold dig; rw [if_pos (by omega), show 7 - (7 - m) = m by omega]
theorem dig_other (n m j : Nat) (h : j ≠ 7 - m) (hj : j < 8) : dig n (m + 1) j = dig n m j := by
  unfold dig
  by_cases h2 : 7 - j < m
  · rw [if_pos (by omega), if_pos h2]
  · rw [if_neg (by omega), if_neg h2]
theorem dig_big (n k j : Nat) (hk : k ≤ 8) (hj : j < k) : ∃ b : UInt8, (big k n)[j]? = some b ∧ b.toNat = dig n 8 (8 - k + j) := by
  refine ⟨_, big_at k n j hj, ?_⟩
  rw [UInt8.toNat_ofNat']
  unfold dig
  rw [if_pos (by omega), show 7 - (8 - k + j) = k - 1 - j by omega]
  omega
end Oc
end Go.Proofs.Ytdkkcogjkeonkaa
