/- The program's nodes and the document's, split and joined: they agree. -/
import Derived.Test.YtilccpklbaglpaaRSplit
import Derived.Test.YtilccpklbaglpaaSMath3
set_option maxRecDepth 100000
set_option maxHeartbeats 4000000
set_option linter.unusedVariables false
namespace Go.Proofs.Ytilccpklbaglpaa.Sl
variable {α β : Type}
theorem dif_map (S : Sh α) (f : β → α) (l : List β) (i : Nat) : dif S (l.map f) i = dif (S.via f) l i := by
  unfold dif; rw [← List.map_take, sum_map, sum_map]
theorem cutAt_map (S : Sh α) (f : β → α) (l : List β) : cutAt S (l.map f) = cutAt (S.via f) l := by
  unfold cutAt
  rw [List.length_map, show dif S (l.map f) = dif (S.via f) l from funext (dif_map S f l)]
theorem cutAt_kids (l : List Kd) : cutAt (shR false) (l.map toC) = cutAt shK l := by rw [cutAt_map, shR_false]
theorem setC_map (k : List UInt8) (l : List Kd) : setC k (l.map toC) = (setK k l).map toC := by cases l <;> rfl
theorem fkey_map (l : List Kd) : fkey (shR false) (l.map toC) = fkey shK l := by cases l <;> rfl
theorem toR_spA (n : Nd) : toR (spA n) = rsA (toR n) := by
  obtain ⟨lf, cs, ks⟩ := n
  cases lf
  · show (⟨false, (ks.take (cutAt shK ks)).map toC⟩ : Rn) = ⟨false, (ks.map toC).take (cutAt (shR false) (ks.map toC))⟩
    rw [cutAt_kids, List.map_take]
  · rfl
theorem toR_spB (n : Nd) : toR (spB n) = rsB (toR n) := by
  obtain ⟨lf, cs, ks⟩ := n
  cases lf
  · show (⟨false, (setK [] (ks.drop (cutAt shK ks))).map toC⟩ : Rn) = ⟨false, setC [] ((ks.map toC).drop (cutAt (shR false) (ks.map toC)))⟩
    rw [cutAt_kids, ← List.map_drop, setC_map]
  · rfl
theorem toR_spK (n : Nd) : rsK (toR n) = spK n := by
  obtain ⟨lf, cs, ks⟩ := n
  cases lf
  · show fkey (shR false) ((ks.map toC).drop (cutAt (shR false) (ks.map toC))) = fkey shK (ks.drop (cutAt shK ks))
    rw [cutAt_kids, ← List.map_drop, fkey_map]
  · rfl
theorem toR_join (a : Nd) (k : List UInt8) (b : Nd) (h : a.leaf = b.leaf) : toR (joinN a k b) = joinR (toR a) k (toR b) := by
  obtain ⟨lf, cs, ks⟩ := a
  obtain ⟨lf', cs', ks'⟩ := b
  simp only at h
  subst h
  cases lf
  · show (⟨false, (ks ++ setK k ks').map toC⟩ : Rn) = ⟨false, ks.map toC ++ setC k (ks'.map toC)⟩
    rw [List.map_append, setC_map]
  · rfl
theorem setK_back (l : List Kd) : setK (fkey shK l) (setK [] l) = l := by cases l <;> rfl
theorem join_split (lf : Bool) (l : List Cl) : joinN (spA (fromN lf l)) (spK (fromN lf l)) (spB (fromN lf l)) = fromN lf l := by
  cases lf
  · show (⟨false, [], (l.map toK).take (cutAt shK (l.map toK)) ++ setK (fkey shK ((l.map toK).drop (cutAt shK (l.map toK)))) (setK [] ((l.map toK).drop (cutAt shK (l.map toK))))⟩ : Nd) = ⟨false, [], l.map toK⟩
    rw [setK_back, List.take_append_drop]
  · show (⟨true, l.take (cutAt shC l) ++ l.drop (cutAt shC l), []⟩ : Nd) = ⟨true, l, []⟩
    rw [List.take_append_drop]
/-- Lengths that serve every call. -/
def Lim (n : Nd) (k : Nat) : Prop := n.cs.length ≤ k ∧ n.ks.length ≤ k
theorem lim_from (lf : Bool) (l : List Cl) (k : Nat) (h : l.length ≤ k) : Lim (fromN lf l) k := by
  cases lf
  · exact ⟨Nat.zero_le _, by show (l.map toK).length ≤ k; rw [List.length_map]; exact h⟩
  · exact ⟨h, Nat.zero_le _⟩
theorem lim_spA (n : Nd) (k : Nat) (h : Lim n k) : Lim (spA n) k := by
  obtain ⟨lf, cs, ks⟩ := n
  obtain ⟨h1, h2⟩ := h
  simp only at h1 h2
  cases lf
  · exact ⟨Nat.zero_le _, by show (ks.take _).length ≤ k; rw [List.length_take]; omega⟩
  · exact ⟨by show (cs.take _).length ≤ k; rw [List.length_take]; omega, Nat.zero_le _⟩
theorem lim_spB (n : Nd) (k : Nat) (h : Lim n k) : Lim (spB n) k := by
  obtain ⟨lf, cs, ks⟩ := n
  obtain ⟨h1, h2⟩ := h
  simp only at h1 h2
  cases lf
  · exact ⟨Nat.zero_le _, by show (setK [] (ks.drop _)).length ≤ k; rw [setK_len, List.length_drop]; omega⟩
  · exact ⟨by show (cs.drop _).length ≤ k; rw [List.length_drop]; omega, Nat.zero_le _⟩
theorem lim_join (a b : Nd) (s : List UInt8) (k : Nat) (h : Lim a k) (h' : Lim b k) : Lim (joinN a s b) (k + k) := by
  obtain ⟨lf, cs, ks⟩ := a
  obtain ⟨lf', cs', ks'⟩ := b
  obtain ⟨h1, h2⟩ := h
  obtain ⟨h3, h4⟩ := h'
  simp only at h1 h2 h3 h4
  cases lf
  · exact ⟨Nat.zero_le _, by show (ks ++ setK s ks').length ≤ _; rw [List.length_append, setK_len]; omega⟩
  · exact ⟨by show (cs ++ cs').length ≤ _; rw [List.length_append]; omega, Nat.zero_le _⟩
theorem lim_toR (n : Nd) (k : Nat) (h : Lim n k) : (toR n).l.length ≤ k := by
  obtain ⟨lf, cs, ks⟩ := n
  cases lf
  · show (ks.map toC).length ≤ k; rw [List.length_map]; exact h.2
  · exact h.1
end Go.Proofs.Ytilccpklbaglpaa.Sl
