/- The document's Words, Key, Pattern. -/
import Derived.Test.YtkidilojgjligaaTpName
set_option maxRecDepth 100000
set_option maxHeartbeats 4000000
set_option linter.unusedVariables false
namespace Go.Proofs.Ytkidilojgjligaa
open Go.RowKit
open Tp
theorem rowS_snoc {w' : World} {B : Nat} {v' : Value} {l : List Txt} {x : Txt} (h : w'.ownsRow B 9 1 v' (l.length + 1) (l.map eS ++ [.string (str x)])) : RowS w' B v' (l ++ [x]) := by
  show w'.ownsRow _ _ _ _ _ _
  rw [List.length_append, List.map_append]
  exact h
theorem onto_at {s l : List Txt} {t : Txt} {d : List UInt8} (h : s = l ++ onto t (parts (46 :: d))) : s = (l ++ [t]) ++ onto [] (parts d) := by
  rw [h, onto_point]; simp
theorem onto_in {s l : List Txt} {t : Txt} {c : UInt8} {d : List UInt8} (hc : c ≠ 46) (h : s = l ++ onto t (parts (c :: d))) : s = l ++ onto (t ++ [c]) (parts d) := by
  rw [h, onto_other _ _ _ hc]
theorem drop_atC {s : Txt} {i : Nat} {c : UInt8} (h : s[i]? = some c) : s.drop i = c :: s.drop (i + 1) := by
  have hl := (List.getElem?_eq_some_iff.1 h).1
  rw [List.drop_eq_getElem_cons hl, (List.getElem?_eq_some_iff.1 h).2]
set_option maxHeartbeats 4000000 in
set_option maxRecDepth 100000 in
theorem rWords_any (s : Txt) (hs : s.length ≤ 100000) (w : World) :
    Calls Try.prog 16 #[.string (str s)] w fun e w' => ∃ v, e = .returned v ∧ RowS w' w.heap.size v (words s) ∧ RowKit.Below w.heap.size w w' := by
  obtain ⟨i0, hi, hz0, hz1, hz2⟩ := info_parts infoS
  have hz : (str s).size = s.length := rfl
  by_cases h0 : s = []
  · subst h0
    have he : (str ([] : Txt)).toList = [] := strL []
    have HR : Hid (RowS w w.heap.size (.slice none 0 0) (words [])) := RowP.nil _ _ _ _
    go_enter Try.func16, Try.ntmps16
    go_wp2
    go_ret
    exact ⟨_, rfl, HR.out, Below.refl _ _⟩
  · have HW := Lib.hid (words_of_ne h0)
    have hne : (str s).toList ≠ [] := by rw [strL]; exact h0
    have hne2 : (str s).toList.isEmpty = false := by rw [strL]; cases s with | nil => exact absurd rfl h0 | cons _ _ => rfl
    clear h0
    go_enter Try.func16, Try.ntmps16
    go_wp2
    go_loopg [3, 4, 5] s.length (fun g u3 u4 u5 wr => ∃ (l : List Txt) (t : Txt) (i : Nat), Hid (parts s = l ++ onto t (parts (s.drop i))) ∧ i ≤ s.length ∧ l.length ≤ i ∧ t.length ≤ i ∧ g = s.length - i ∧ Hid (RowS wr w.heap.size u3 l) ∧ u4 = .string (str t) ∧ u5 = .int .i64 i ∧ Hid (RowKit.Below w.heap.size w wr))
    case atStart => exact ⟨[], [], 0, by show _ = _; rw [List.drop_zero, List.nil_append, onto_none], Nat.zero_le _, Nat.le_refl _, Nat.le_refl _, rfl, RowP.nil _ _ _ _, rfl, rfl, Below.refl _ _⟩
    case round =>
      obtain ⟨l, t, i, HP, hil, hll, htl, rfl, HR, rfl, rfl, HB⟩ := hrel
      have hzt : (str t).size = t.length := rfl
      have hbs := HB.out.size
      by_cases hlt : i < s.length
      · obtain ⟨c, hc⟩ := some_atP hlt
        have hidx := str_at s i c hc
        have hsl := fun W => slice_one s i c hc W
        have HD := Lib.hid (drop_atC hc)
        clear hc
        by_cases hc46 : c = 46
        · subst hc46
          have hidx' : ∀ hh : i < (str s).size, ((str s)[i]'hh).toNat = 46 := hidx
          clear hidx hsl
          have HP2 : Hid (parts s = (l ++ [t]) ++ onto [] (parts (s.drop (i + 1)))) := onto_at (by rw [← HD.out]; exact HP.out)
          obtain ⟨a3, c3, rfl⟩ := HR.out.slice
          go_wp2_with (at_builtin; refine wpList_append_own _ rfl _ _ 25 rfl w.heap.size 9 i0 (.string ⟨#[]⟩) 1 16 Try.underlying25 hi hz0 hz1 hz2 rfl (by decide) _ l.length (l.map eS) rfl (World.ownsRow.alloc (show wr.ownsRow _ _ _ _ _ _ from HR.out) _) ⟨wr.heap.size, 0, none⟩ 1 1 [.string (str t)] rfl rfl (cell_one_new _ _ _) (by simp [Value.oneCell']) (by unfold maxLen; omega) (by omega) (by have := HB.out.size; simp; omega) ?_; intro v' w4 hown' hgrow _; have HR4 := Lib.hid (rowS_snoc hown'); have HB4 := Lib.hid ((HB.out.alloc HB.out.size _).grown hgrow (by have := HB.out.size; simp; omega) (fun g hg => (HR.out.lt hg).2)); clear hown' hgrow)
          go_roundg (s.length - (i + 1))
          case rel => exact ⟨l ++ [t], [], i + 1, HP2, by omega, by simp; omega, Nat.zero_le _, rfl, HR4, rfl, by go_num, HB4⟩
          case measure => omega
        · have hne : ((c.toNat : Int) == 46) = false := by
            rw [beq_eq_false_iff_ne]; intro h; exact hc46 (UInt8.toNat_inj.1 (by show c.toNat = 46; omega))
          have HP2 : Hid (parts s = l ++ onto (t ++ [c]) (parts (s.drop (i + 1)))) := onto_in hc46 (by rw [← HD.out]; exact HP.out)
          have HJ : Hid (str t ++ str [c] = str (t ++ [c])) := str_append t [c]
          have hs1 : (str [c]).size = 1 := rfl
          go_wp2
          go_roundg (s.length - (i + 1))
          case rel => exact ⟨l, t ++ [c], i + 1, HP2, by omega, by omega, by simp; omega, rfl, HR, congrArg Value.string HJ.out, by go_num, HB⟩
          case measure => omega
      · obtain rfl : i = s.length := by omega
        have HP2 : Hid (words s = l ++ [t]) := by
          have := HP.out
          rw [List.drop_length, onto_nil] at this
          show _ = _
          rw [HW.out, this]
        obtain ⟨a3, c3, rfl⟩ := HR.out.slice
        go_wp2_with (at_builtin; refine wpList_append_own _ rfl _ _ 25 rfl w.heap.size 9 i0 (.string ⟨#[]⟩) 1 16 Try.underlying25 hi hz0 hz1 hz2 rfl (by decide) _ l.length (l.map eS) rfl (World.ownsRow.alloc (show wr.ownsRow _ _ _ _ _ _ from HR.out) _) ⟨wr.heap.size, 0, none⟩ 1 1 [.string (str t)] rfl rfl (cell_one_new _ _ _) (by simp [Value.oneCell']) (by unfold maxLen; omega) (by omega) (by have := HB.out.size; simp; omega) ?_; intro v' w4 hown' hgrow _; have HR4 := Lib.hid (rowS_snoc hown'); have HB4 := Lib.hid ((HB.out.alloc HB.out.size _).grown hgrow (by have := HB.out.size; simp; omega) (fun g hg => (HR.out.lt hg).2)); clear hown' hgrow)
        go_ret
        exact ⟨_, rfl, by rw [HP2.out]; exact HR4.out, HB4.out⟩
end Go.Proofs.Ytkidilojgjligaa
