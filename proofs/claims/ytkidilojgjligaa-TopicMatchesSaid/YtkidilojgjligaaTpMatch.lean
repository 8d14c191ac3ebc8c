/- topic.Match. -/
import Derived.Test.YtkidilojgjligaaTpColl
set_option maxRecDepth 100000
set_option maxHeartbeats 4000000
set_option linter.unusedVariables false
namespace Go.Proofs.Ytkidilojgjligaa
open Go.RowKit
open Tp
attribute [local go_sem] Oper.semAt_some
theorem coll_new (s : Txt) (hs : s.length ≤ 100000) (m : Int) (w : World) (hm : w.cell? ⟨0, 0, none⟩ = some (.int .i64 m)) :
    Calls Try.prog 14 #[.func (.func 29) #[] #[.pointer (some ⟨w.heap.size, 0, none⟩)]] (w.alloc (.cells #[.string (str s)] 9)) fun e W' => ∃ v, e = .returned v ∧ RowS W' w.heap.size v (words s) ∧ RowKit.Below w.heap.size w W' := by
  have hb : RowKit.Below w.heap.size w (w.alloc (.cells #[.string (str s)] 9)) := (Below.refl _ _).alloc (Nat.le_refl _) _
  refine (coll_any w.heap.size s hs m _ ⟨World.cell?_alloc_new w _ _ 0, (hb.cell (p := ⟨0, 0, none⟩) (World.block_lt_of_cell? _ _ hm)).trans hm⟩).mono ?_
  rintro e W' ⟨v, rfl, hr, hb2⟩
  exact ⟨v, rfl, hr.base (by simp), hb.trans (hb2.mono (by simp))⟩
/-- What each round lowers. -/
def meas (p k last taken at' : Nat) : Nat := ((p + 1 - last) * (k + 1) + (k - taken)) * (p + 2) + (p - at')
theorem lex_lt {X Y c d p : Nat} (h : X + 1 ≤ Y) (hc : c ≤ p) : X * (p + 2) + c < Y * (p + 2) + d := by
  have h2 : (X + 1) * (p + 2) ≤ Y * (p + 2) := Nat.mul_le_mul_right _ h
  rw [Nat.add_mul] at h2
  omega
theorem meas_one {p k last taken at' : Nat} (h : at' < p) : meas p k last taken (at' + 1) < meas p k last taken at' := by
  unfold meas; omega
theorem meas_more {p k last taken at' : Nat} (h : taken < k) : meas p k last (taken + 1) last < meas p k last taken at' := by
  unfold meas
  exact lex_lt (by omega) (by omega)
theorem meas_hash {p k last taken at' i : Nat} (h : at' < p) (hl : last ≤ at') : meas p k (at' + 1) i (at' + 1) < meas p k last taken at' := by
  unfold meas
  refine lex_lt ?_ (by omega)
  have h2 : (p + 1 - (at' + 1) + 1) * (k + 1) ≤ (p + 1 - last) * (k + 1) := Nat.mul_le_mul_right _ (by omega)
  rw [Nat.add_mul] at h2
  omega
theorem hash_str : (⟨#[35]⟩ : ByteArray) = str HASH := rfl
set_option maxHeartbeats 8000000 in
set_option maxRecDepth 100000 in
theorem match_any (p k : Txt) (hp : p.length ≤ 100000) (hk : k.length ≤ 100000) (m : Int) (w : World) (hm : w.cell? ⟨0, 0, none⟩ = some (.int .i64 m)) :
    Calls Try.prog 20 #[.string (str p), .string (str k)] w fun e w' => e = .returned (.bool (mt (words p) (words k))) ∧ RowKit.Below w.heap.size w w' := by
  have HC1 := Lib.hid (coll_new p hp m w hm)
  have HC2 : Hid (∀ W, RowKit.Below w.heap.size w W → Calls Try.prog 14 #[.func (.func 29) #[] #[.pointer (some ⟨W.heap.size, 0, none⟩)]] (W.alloc (.cells #[.string (str k)] 9)) fun e W' => ∃ v, e = .returned v ∧ RowS W' W.heap.size v (words k) ∧ RowKit.Below W.heap.size W W') :=
    fun W hb => coll_new k hk m W ((hb.cell (p := ⟨0, 0, none⟩) (World.block_lt_of_cell? _ _ hm)).trans hm)
  have hlp : (words p).length ≤ 100001 := by have := words_len p; omega
  have hlk : (words k).length ≤ 100001 := by have := words_len k; omega
  have hsp := Lib.hid (words_sum p)
  clear hm
  revert HC1 HC2 hlp hlk hsp
  generalize words p = P
  generalize words k = K
  intro HC1 HC2 hlp hlk hsp
  go_enter Try.func20, Try.ntmps20
  go_wp2_with (first
    | (go_at_call 15; (with_reducible refine (words_any _ _).mono ?_); rintro e w1 ⟨rfl, rfl⟩)
    | (go_at_call 14; (with_reducible refine HC1.out.mono ?_); rintro e w2 ⟨v2, rfl, hr2, hb2⟩; have HB2 := Lib.hid hb2; have HR2 := Lib.hid hr2; have HC3 := Lib.hid (HC2.out w2 hb2); obtain ⟨aP, cP, rfl⟩ := hr2.slice; clear hr2 hb2)
    | (go_at_call 14; (with_reducible refine HC3.out.mono ?_); rintro e w3 ⟨v3, rfl, hr3, hb3⟩; have HB3 := Lib.hid hb3; have HR3 := Lib.hid hr3; obtain ⟨aK, cK, rfl⟩ := hr3.slice; clear hr3 hb3))
  have HBW : Hid (RowKit.Below w.heap.size w w3) := HB2.out.trans (HB3.out.mono HB2.out.size)
  have HSP : Hid (SlS w3 (.slice aP P.length cP) P) := HR2.out.sl.below rfl HB3.out
  have HSK : Hid (SlS w3 (.slice aK K.length cK) K) := HR3.out.sl
  clear HC1 HC2 HC3 HB2 HB3 HR2 HR3
  obtain ⟨a, b, o, c, he, haP, hxP⟩ := HSP.out
  cases he
  obtain ⟨a, b2, o2, c, he, haK, hxK⟩ := HSK.out
  cases he
  have HXP := Lib.hid hxP
  have HXK := Lib.hid hxK
  have HAP := Lib.hid haP
  have HAK := Lib.hid haK
  clear hxP hxK haP haK HSP HSK
  go_loopg [7, 8, 9, 10] (meas P.length K.length 0 0 0) (fun g u7 u8 u9 u10 wr => ∃ at' i last taken q : Nat, Hid (Tp.Way P K at' i last taken) ∧ at' ≤ P.length ∧ i ≤ K.length ∧ taken ≤ i ∧ last ≤ at' ∧ g = meas P.length K.length last taken at' ∧ u7 = .int .i64 at' ∧ u8 = .int .i64 ((last : Int) - 1) ∧ u9 = .int .i64 taken ∧ u10 = .int .i64 i ∧ wr = w3.drewN q)
  case atStart => exact ⟨0, 0, 0, 0, 0, Tp.Way.start P K, Nat.zero_le _, Nat.zero_le _, Nat.le_refl _, Nat.le_refl _, rfl, rfl, rfl, rfl, rfl, rfl⟩
  case round =>
    obtain ⟨at', i, last, taken, q, HW, hat, hi, ht, hl, rfl, rfl, rfl, rfl, rfl, rfl⟩ := hrel
    by_cases hik : i < K.length
    · obtain ⟨y, hy⟩ := some_atP hik
      obtain rfl : aK = some ⟨b2, o2, none⟩ := HAK.out.resolve_left (by rintro rfl; simp at hik)
      have hcK : w3.cell? ⟨b2, o2 + i, none⟩ = some (eS y) := HXK.out i y hy
      have HY := Lib.hid hy
      clear hy
      by_cases hap : at' < P.length
      · obtain ⟨x, hx⟩ := some_atP hap
        obtain rfl : aP = some ⟨b, o, none⟩ := HAP.out.resolve_left (by rintro rfl; simp at hap)
        have hcP : w3.cell? ⟨b, o + at', none⟩ = some (eS x) := HXP.out at' x hx
        have HXx := Lib.hid hx
        clear hx
        by_cases hxh : x = HASH
        · have e35 : ((str x).toList == [35]) = true := by rw [strL, hxh]; rfl
          have HW2 := Lib.hid (HW.out.atHash (by rw [HXx.out, hxh]))
          have HM := Lib.hid (meas_hash (k := K.length) (taken := taken) (i := i) hap hl)
          clear hxh
          go_wp2
          go_roundg (meas P.length K.length (at' + 1) i (at' + 1))
          case rel => exact ⟨at' + 1, i, at' + 1, i, _, HW2, by omega, by omega, Nat.le_refl _, Nat.le_refl _, rfl, by go_num, by go_num, rfl, rfl, rfl⟩
          case measure => exact HM.out
        · have e35 : ((str x).toList == [35]) = false := by rw [strL, beq_eq_false_iff_ne]; exact hxh
          by_cases hfit : x = STAR ∨ x = y
          · have HW2 := Lib.hid (HW.out.one HXx.out HY.out hxh hfit)
            have HM := Lib.hid (meas_one (k := K.length) (last := last) (taken := taken) hap)
            clear hxh
            by_cases hst : x = STAR
            · have e42 : ((str x).toList == [42]) = true := by rw [strL, hst]; rfl
              clear hst hfit
              go_wp2_with fail
              go_quiet (fail)
              go_wp2
              go_roundg (meas P.length K.length last taken (at' + 1))
              case rel => exact ⟨at' + 1, i + 1, last, taken, _, HW2, by omega, by omega, by omega, by omega, rfl, by go_num, rfl, rfl, by go_num, rfl⟩
              case measure => exact HM.out
            · have e42 : ((str x).toList == [42]) = false := by rw [strL, beq_eq_false_iff_ne]; exact hst
              have exy : ((str x).toList == (str y).toList) = true := by rw [strL, strL, hfit.resolve_left hst]; exact beq_self_eq_true _
              clear hst hfit
              go_wp2_with fail
              go_quiet (fail)
              go_wp2
              go_roundg (meas P.length K.length last taken (at' + 1))
              case rel => exact ⟨at' + 1, i + 1, last, taken, _, HW2, by omega, by omega, by omega, by omega, rfl, by go_num, rfl, rfl, by go_num, rfl⟩
              case measure => exact HM.out
          · have hst : x ≠ STAR := fun h => hfit (.inl h)
            have hxy : x ≠ y := fun h => hfit (.inr h)
            have e42 : ((str x).toList == [42]) = false := by rw [strL, beq_eq_false_iff_ne]; exact hst
            have exy : ((str x).toList == (str y).toList) = false := by rw [strL, strL, beq_eq_false_iff_ne]; exact hxy
            have HBAD : Hid (at' = P.length ∨ ∃ x y, P[at']? = some x ∧ K[i]? = some y ∧ x ≠ HASH ∧ x ≠ STAR ∧ x ≠ y) := .inr ⟨x, y, HXx.out, HY.out, hxh, hst, hxy⟩
            clear hst hxy hfit hxh
            by_cases h0 : last = 0
            · have HN : Hid (mt P K = false) := (h0 ▸ HW.out).no hik HBAD.out
              have h0i : ¬ (0 : Int) ≤ (last : Int) - 1 := by omega
              clear h0
              go_wp2_with fail
              go_quiet (fail)
              go_wp2
              go_ret
              exact ⟨ret_bool HN.out.symm, below_drewT HBW.out _⟩
            · have HW2 := Lib.hid (HW.out.more h0 hik HBAD.out)
              have h0i : (0 : Int) ≤ (last : Int) - 1 := by omega
              have HM := Lib.hid (meas_more (p := P.length) (last := last) (at' := at') (show taken < K.length by omega))
              clear h0
              go_wp2_with fail
              go_quiet (fail)
              go_wp2
              go_roundg (meas P.length K.length last (taken + 1) last)
              case rel => exact ⟨last, taken + 1, last, taken + 1, _, HW2, by omega, by omega, Nat.le_refl _, Nat.le_refl _, rfl, by go_num, rfl, by go_num, by go_num, rfl⟩
              case measure => exact HM.out
      · obtain rfl : at' = P.length := by omega
        have HBAD : Hid (P.length = P.length ∨ ∃ x y, P[P.length]? = some x ∧ K[i]? = some y ∧ x ≠ HASH ∧ x ≠ STAR ∧ x ≠ y) := .inl rfl
        by_cases h0 : last = 0
        · have HN : Hid (mt P K = false) := (h0 ▸ HW.out).no hik HBAD.out
          have h0i : ¬ (0 : Int) ≤ (last : Int) - 1 := by omega
          clear h0
          go_wp2_with fail
          go_quiet (fail)
          go_wp2
          go_ret
          exact ⟨ret_bool HN.out.symm, below_drewT HBW.out _⟩
        · have HW2 := Lib.hid (HW.out.more h0 hik HBAD.out)
          have h0i : (0 : Int) ≤ (last : Int) - 1 := by omega
          have HM := Lib.hid (meas_more (p := P.length) (last := last) (at' := P.length) (show taken < K.length by omega))
          clear h0
          go_wp2_with fail
          go_quiet (fail)
          go_wp2
          go_roundg (meas P.length K.length last (taken + 1) last)
          case rel => exact ⟨last, taken + 1, last, taken + 1, _, HW2, by omega, by omega, Nat.le_refl _, Nat.le_refl _, rfl, by go_num, rfl, by go_num, by go_num, rfl⟩
          case measure => exact HM.out
    · obtain rfl : i = K.length := by omega
      have HD : Hid (mt P K = (P.drop at').all (fun x => decide (x = HASH))) := HW.out.done
      clear HW
      obtain ⟨wo, hwo⟩ : ∃ wo, wo = w3.drewN q := ⟨_, rfl⟩
      go_wp2_with fail
      go_loopg [7] (P.length - at') (fun g u7 wr => ∃ j : Nat, Hid (mt P K = (P.drop j).all (fun x => decide (x = HASH))) ∧ j ≤ P.length ∧ g = P.length - j ∧ u7 = .int .i64 j ∧ wr = w3.drewN q)
      case atStart => exact ⟨at', HD, hat, rfl, rfl, rfl⟩
      case round =>
        clear HD hat hl
        obtain ⟨j, HD, hj, rfl, rfl, rfl⟩ := hrel
        by_cases hap : j < P.length
        · obtain ⟨x, hx⟩ := some_atP hap
          obtain rfl : aP = some ⟨b, o, none⟩ := HAP.out.resolve_left (by rintro rfl; simp at hap)
          have hcP : w3.cell? ⟨b, o + j, none⟩ = some (eS x) := HXP.out j x hx
          by_cases hxh : x = HASH
          · have e35 : ((str x).toList == [35]) = true := by rw [strL, hxh]; rfl
            have HD2 : Hid (mt P K = (P.drop (j + 1)).all (fun x => decide (x = HASH))) := HD.out.trans (all_hash (by rw [hx, hxh]))
            clear hxh hx
            go_wp2
            go_roundg (P.length - (j + 1))
            case rel => exact ⟨j + 1, HD2, by omega, rfl, by go_num, rfl⟩
            case measure => omega
          · have e35 : ((str x).toList == [35]) = false := by rw [strL, beq_eq_false_iff_ne]; exact hxh
            have HN : Hid (mt P K = false) := HD.out.trans (all_other hx hxh)
            have hne : ((j : Int) == (P.length : Int)) = false := by rw [beq_eq_false_iff_ne]; omega
            clear hxh hx
            go_wp2
            go_ret
            exact ⟨ret_bool HN.out.symm, below_drewT HBW.out _⟩
        · obtain rfl : j = P.length := by omega
          have HN : Hid (mt P K = true) := HD.out.trans (all_end P)
          go_wp2
          go_ret
          exact ⟨ret_bool HN.out.symm, below_drewT HBW.out _⟩
end Go.Proofs.Ytkidilojgjligaa
