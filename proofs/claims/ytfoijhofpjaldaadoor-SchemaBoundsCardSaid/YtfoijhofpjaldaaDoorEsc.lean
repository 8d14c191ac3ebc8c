/- What strings.ReplaceAll makes of a text for a key. -/
import Derived.Test.YtfoijhofpjaldaaDoorShelf
import Derived.Test.YtfoijhofpjaldaaDoorOMath
import Derived.Lib.Replace
import Derived.Lib.SplitLaws
import Derived.Lib.IndexBytes
set_option maxRecDepth 100000
set_option maxHeartbeats 4000000
set_option linter.unusedVariables false
namespace Go.Proofs.YtfoijhofpjaldaaDoor
theorem index_cons (b : UInt8) (hb : b ≠ 0) (l : List UInt8) (i : Nat) (h : Lib.index l [0] = i) : Lib.index (b :: l) [0] = ((i + 1 : Nat) : Int) := by
  rw [Lib.index_one] at h ⊢
  unfold Lib.indexByte
  rw [h]
  simp [hb]
theorem replaceK_esc : ∀ l : List UInt8, Lib.replaceK [0] [0, 255] (Lib.count l [0]) l = Ord.esc l
  | [] => by rw [show Lib.count [] [0] = 0 by rw [Lib.count_one]; rfl]; rfl
  | b :: l => by
    have ih := replaceK_esc l
    by_cases hb : b = 0
    · subst hb
      rw [Lib.count_cons_eq, Nat.add_comm 1, Lib.replaceK_hit _ _ _ _ 0 (by rw [Lib.index_one]; rfl)]
      simp [Ord.esc, ih]
    · rw [Lib.count_cons_ne b 0 l hb]
      simp only [Ord.esc, if_neg hb]
      cases hk : Lib.count l [0] with
      | zero =>
        rw [hk] at ih
        rw [← ih]; rfl
      | succ k =>
        obtain ⟨i, hi⟩ := Lib.index_of_count (s := l) (old := [0]) (by omega)
        rw [hk, Lib.replaceK_hit _ _ _ _ i hi] at ih
        rw [Lib.replaceK_hit _ _ _ _ (i + 1) (index_cons b hb l i hi), ← ih]
        simp
theorem replaceAll_esc (l : List UInt8) : Lib.replaceAll l [0] [0, 255] = Ord.esc l := by
  unfold Lib.replaceAll Lib.replace Lib.replaceNum
  rw [if_neg (by decide), if_pos (by left; decide)]
  exact replaceK_esc l
theorem countB_esc (s : ByteArray) : Lib.countB s ⟨#[0]⟩ ≤ s.size := Lib.countB_le _ (by decide) s.size s (Nat.le_refl _)
end Go.Proofs.YtfoijhofpjaldaaDoor
