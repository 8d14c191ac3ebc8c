/- Texts of one seat, merged. -/
import Derived.Test.YtpkoehnjladpoaaE06
import Derived.Deep.RegionWith
import Derived.Deep.DeepCutAuto
set_option maxRecDepth 100000
set_option maxHeartbeats 4000000
set_option linter.unusedVariables false
/- The contract of a chain's Frames. -/
namespace Go.Proofs.Ytpkoehnjladpoaa
open Go.RowKit
open Ch (Fr)
theorem str_piece (s : List UInt8) (i j : Nat) : (str s).extract i j = str ((s.drop i).take (j - i)) := by
  apply ByteArray.ext
  simp [str, ByteArray.data_extract, List.extract_toArray]
theorem piece_of (s : List UInt8) (k : Nat) (h : k * 4068 ≤ s.length) : (str s).extract (k * 4068) (min ((k + 1) * 4068) s.length) = str ((s.drop (k * 4068)).take 4068) := by
  rw [str_piece]
  by_cases h2 : (k + 1) * 4068 ≤ s.length
  · rw [Nat.min_eq_left h2, show (k + 1) * 4068 - k * 4068 = 4068 by omega]
  · rw [Nat.min_eq_right (by omega), List.take_of_length_le (by rw [List.length_drop]; exact Nat.le_refl _), List.take_of_length_le (by rw [List.length_drop]; omega)]
theorem slice_size (s : List UInt8) (k : Nat) (h : (k + 1) * 4068 ≤ s.length) : ((str s).extract (k * 4068) ((k + 1) * 4068)).size = 4068 := by
  rw [ByteArray.size_extract, str_size]; omega
theorem frames_any (v : Value) (ids : List Nat) (tx : Nat) (s : List UInt8) (hl : ids.length ≤ 40) (hid : ∀ x ∈ ids, x < 4294967296) (hs : s.length ≤ 1000000) (w : World) (hv : SlU w v ids) :
    Calls Try.prog 8 #[v, .int .u64 tx, .string (str s)] w (FrOut 37 ids tx s w) := by
  have hsz := str_size s
  have HN := Lib.hid (fun W => need_any (s.length : Int) (by omega) (by omega) W)
  rw [Ch.need_nat] at HN
  obtain ⟨a, b, o, c, rfl, ha, hx⟩ := hv
  have HX := Lib.hid hx
  have HA := Lib.hid ha
  clear ha hx
  by_cases h1 : (65536 : Int) < s.length
  · have HE := Lib.hid (Ch.err_long ids s (by omega))
    go_enter Try.func8, Try.ntmps8
    go_wp2
    go_ret2
    exact .bad (by rw [HE.out]; decide) (by rw [HE.out]; rfl) (Below.refl _ _)
  · by_cases h2 : ids.length = Ch.needN s.length
    · rw [← h2] at HN
      have H2 := Lib.hid h2
      clear h2
      have hmk := fun W => make_frames ids.length (by omega) W
      have HMR := Lib.hid (made_rowF w ids.length (by omega))
      have hb4 := big_size
      go_enter Try.func8, Try.ntmps8
      go_wp2_with (go_at_call 10; refine (HN.out _).mono ?_; rintro e w1 ⟨rfl, rfl⟩)
      clear hmk HN
      have HB3 : Hid (Below w.heap.size w (w.alloc (.cells (madeCells zeroF (ids.length * 5)) 37))) := (Below.refl _ _).alloc (Nat.le_refl _) _
      have hlz := size_madeCells zeroF (ids.length * 5)
      have HLZ : Hid ((madeCells zeroF (ids.length * 5)).toList.length = (ids.length - 0) * 5) := by show _ = _; rw [Array.length_toList, hlz]; omega
      clear hlz
      generalize (w.alloc (.cells (madeCells zeroF (ids.length * 5)) 37)) = w3 at HMR HB3 ⊢
      generalize (madeCells zeroF (ids.length * 5)).toList = Z at HMR HLZ
      generalize hg : w.heap.size = g at HMR ⊢
      have HG := Lib.hid hg
      clear hg
      go_loopg [29] ids.length (fun n i wr => ∃ (l : List Fr) (zs : List Value), l.length ≤ ids.length ∧ n = ids.length - l.length ∧ i = .int .i64 l.length ∧ Hid (l = Ch.frs ids tx s l.length) ∧ Hid (zs.length = (ids.length - l.length) * 5) ∧ Hid (wr.ownsRow g 37 5 (.slice (some ⟨g, 0, none⟩) ids.length ids.length) ids.length (l.flatMap cellsF ++ zs)) ∧ Hid (∀ (j : Nat) id, j < l.length → ids[j]? = some id → ¬ id < 2) ∧ Hid (Below w.heap.size w wr))
      case atStart => exact ⟨[], Z, Nat.zero_le _, rfl, rfl, rfl, HLZ.out, HMR.out, fun j id h => absurd h (Nat.not_lt_zero j), HB3.out⟩
      case round =>
        obtain ⟨l, zs, hk, rfl, rfl, HL, HZ, HO, HI, HB⟩ := hrel
        by_cases hlt : l.length < ids.length
        · obtain ⟨x, hx⟩ : ∃ x, ids[l.length]? = some x := ⟨_, List.getElem?_eq_getElem hlt⟩
          have e0 := HX.out l.length x hx
          have hblt : b < w.heap.size := World.block_lt_of_cell? _ _ e0
          have d0 := (HB.out.cell (p := ⟨b, o + l.length, none⟩) hblt).trans e0
          obtain rfl : a = some ⟨b, o, none⟩ := by
            rcases HA.out with h | h
            · rw [h] at hlt; cases hlt
            · exact h
          have hki : (l.length : Int) < ids.length := by omega
          have hk0 : (0 : Int) ≤ (l.length : Int) := by omega
          have hxb : x < 4294967296 := hid x (List.mem_of_getElem? hx)
          by_cases hx2 : (x : Int) < 2
          · have HE := Lib.hid (Ch.err_low ids s (by omega) H2.out l.length x hx (by omega))
            clear e0 hblt hx
            go_wp2
            go_ret2
            exact .bad (by rw [HE.out]; decide) (by rw [HE.out]; rfl) HB.out
          · have HR3 : Hid (wr.drew.ownsRow g 37 5 (.slice (some ⟨g, 0, none⟩) ids.length ids.length) ids.length (l.flatMap cellsF ++ zs)) := ownsRow_below HO.out (Below.refl _ _).drew
            have HXX := Lib.hid hx
            by_cases hnx : (l.length : Int) + 1 < ids.length
            · obtain ⟨NN, hnn⟩ : ∃ x, ids[l.length + 1]? = some x := ⟨_, List.getElem?_eq_getElem (by omega)⟩
              have e1 := HX.out (l.length + 1) NN hnn
              have d1 := (HB.out.cell (p := ⟨b, o + (l.length + 1), none⟩) hblt).trans e1
              have hnb : NN < 4294967296 := hid NN (List.mem_of_getElem? hnn)
              have HNX : Hid (Ch.nxt ids l.length = NN) := by show Ch.nxt ids l.length = NN; unfold Ch.nxt; rw [hnn]
              have hw3' : IntKind.i64.wrap ((l.length : Int) + 1) = (l.length : Int) + 1 := IntWalk.i64_in _ (by omega)
              have hk2 : (0 : Int) ≤ (l.length : Int) + 1 := by omega
              have hk33 : ((l.length : Int) + 1).toNat = l.length + 1 := by omega
              clear e0 e1 hblt hx hnn
              go_upto_region 14 with fail
              clear d0 d1
              have HF4 := Lib.hid (fun W => four_at (NN : Nat) NN rfl hnb W)
              have hrm := Ch.need_room s.length l.length (by rw [← H2.out]; exact hlt)
              obtain  ⟨AA, hAA⟩ : ∃ A : Int, A = (l.length : Int) * 4068 := ⟨_, rfl⟩
              obtain ⟨EE, hEE⟩ : ∃ A : Int, A = ((l.length : Int) + 1) * 4068 := ⟨_, rfl⟩
              have hw1' : IntKind.i64.wrap ((l.length : Int) * 4068) = AA := by rw [hAA]; exact IntWalk.i64_in _ (by omega)
              have hw2' : IntKind.i64.wrap (((l.length : Int) + 1) * 4068) = EE := by rw [hEE]; exact IntWalk.i64_in _ (by omega)
              have hw3 : IntKind.i64.wrap ((l.length : Int) + 1) = (l.length : Int) + 1 := IntWalk.i64_in _ (by omega)
              have hp0 : (0 : Int) ≤ AA := by omega
              have hp1 : AA ≤ s.length := by omega
              have hp2 : AA ≤ EE := by omega
              have hp3 : (0 : Int) ≤ EE := by omega
              have hpt : EE.toNat = (l.length + 1) * 4068 := by omega
              have hpa : AA.toNat = l.length * 4068 := by omega
              have hHE := Lib.hid hEE
              clear hAA hEE
              by_cases hmn : EE ≤ s.length
              all_goals
                try have hmn2 : ¬ (s.length : Int) < EE := by omega
                try have hmn2 : (s.length : Int) < EE := by omega
                have hez : ((str s).extract (l.length * 4068) (min ((l.length + 1) * 4068) s.length)).size ≤ 4068 := by rw [ByteArray.size_extract, hsz]; omega
                have hzz : ¬ 9223372036854775807 < 4 + ((str s).extract (l.length * 4068) (min ((l.length + 1) * 4068) s.length)).size := by omega
                first
                | rw [show min ((l.length + 1) * 4068) s.length = (l.length + 1) * 4068 by have := hHE.out; omega] at hzz
                | rw [show min ((l.length + 1) * 4068) s.length = s.length by have := hHE.out; omega] at hzz
                clear hez
                have hF : Hid (Below w.heap.size w wr.drew) := HB.out.drew
                go_region_with (go_at_call 50; refine (HF4.out _).mono ?_; rintro e w4 ⟨rfl, hb⟩)
                all_goals
                  have HR4 := Lib.hid (ownsRow_below HR3.out hb)
                  have HB4 : Hid (Below w.heap.size w w4) := hF.out.trans (hb.mono hF.out.size)
                  clear hb
                  have hpc := piece_of s l.length hrm
                  have HP : Hid (str (Oc.big 4 NN) ++ (str s).extract (l.length * 4068) (min ((l.length + 1) * 4068) s.length) = str (Ch.frAt ids tx s l.length x).body) := by
                    show _ = _
                    rw [hpc, str_append]; unfold Ch.frAt; rw [HNX.out]
                  first
                  | rw [show min ((l.length + 1) * 4068) s.length = (l.length + 1) * 4068 by have := hHE.out; omega] at HP
                  | rw [show min ((l.length + 1) * 4068) s.length = s.length by have := hHE.out; omega] at HP
                  clear hpc hF HR3 HF4
                  have hzl := HZ.out
                  have hfl := flatlF l
                  obtain ⟨z0, ck0⟩ : ∃ z, w4.cell? ⟨g, l.length * 5, none⟩ = some z := ⟨_, (HR4.out.cellAt (l.length * 5) (by omega)).trans (List.getElem?_eq_getElem (by rw [List.length_append, hfl, hzl]; omega))⟩
                  obtain ⟨z1, ck1⟩ : ∃ z, w4.cell? ⟨g, l.length * 5 + 1, none⟩ = some z := ⟨_, (HR4.out.cellAt (l.length * 5 + 1) (by omega)).trans (List.getElem?_eq_getElem (by rw [List.length_append, hfl, hzl]; omega))⟩
                  obtain ⟨z2, ck2⟩ : ∃ z, w4.cell? ⟨g, l.length * 5 + 2, none⟩ = some z := ⟨_, (HR4.out.cellAt (l.length * 5 + 2) (by omega)).trans (List.getElem?_eq_getElem (by rw [List.length_append, hfl, hzl]; omega))⟩
                  obtain ⟨z3, ck3⟩ : ∃ z, w4.cell? ⟨g, l.length * 5 + 3, none⟩ = some z := ⟨_, (HR4.out.cellAt (l.length * 5 + 3) (by omega)).trans (List.getElem?_eq_getElem (by rw [List.length_append, hfl, hzl]; omega))⟩
                  obtain ⟨z4, ck4⟩ : ∃ z, w4.cell? ⟨g, l.length * 5 + 4, none⟩ = some z := ⟨_, (HR4.out.cellAt (l.length * 5 + 4) (by omega)).trans (List.getElem?_eq_getElem (by rw [List.length_append, hfl, hzl]; omega))⟩
                  have fz0 := HR4.out.frozenAt (l.length * 5)
                  have fz1 := HR4.out.frozenAt (l.length * 5 + 1)
                  have fz2 := HR4.out.frozenAt (l.length * 5 + 2)
                  have fz3 := HR4.out.frozenAt (l.length * 5 + 3)
                  have fz4 := HR4.out.frozenAt (l.length * 5 + 4)
                  obtain ⟨zt, hzt, HO7⟩ := storedF HR4.out HZ.out hlt (Ch.frAt ids tx s l.length x)
                  have HZT := Lib.hid hzt
                  have HO8 := Lib.hid HO7
                  have HGB := Lib.hid (show w.heap.size ≤ g from Nat.le_of_eq HG.out)
                  have hw16 : IntKind.u16.wrap (l.length : Int) = (l.length : Int) := by rw [IntKind.wrap_u16]; omega
                  clear hzl hfl hzt HO7
                  rw [HP.out]
                  go_wp2
                  go_roundg (ids.length - (l.length + 1))
                  case measure => omega
                  case rel =>
                    have HLX := HL.out
                    refine ⟨l ++ [Ch.frAt ids tx s l.length x], zt, by rw [List.length_append]; exact hlt, by rw [List.length_append]; rfl, by rw [List.length_append]; go_num, ?_, ?_, ?_, ?_, ?_⟩
                    · show _ = _
                      rw [List.length_append, show l.length + [Ch.frAt ids tx s l.length x].length = l.length + 1 from rfl, Ch.frs_snoc ids tx s l.length x HXX.out, ← HLX]
                    · show _ = _
                      rw [List.length_append]; exact HZT.out
                    · exact HO8.out
                    · intro q id hq hid2
                      by_cases hql : q < l.length
                      · exact HI.out q id hql hid2
                      · obtain rfl : q = l.length := by rw [List.length_append] at hq; simp at hq; omega
                        rw [HXX.out] at hid2
                        cases hid2
                        omega
                    · exact ((((HB4.out.setCell HGB.out _).setCell HGB.out _).setCell HGB.out _).setCell HGB.out _).setCell HGB.out _
            · have hnb : (0 : Nat) < 4294967296 := by decide
              have HNX : Hid (Ch.nxt ids l.length = 0) := by show Ch.nxt ids l.length = 0; unfold Ch.nxt; rw [List.getElem?_eq_none (by omega)]
              clear e0 hblt hx
              go_upto_region 14 with fail
              have HF4 := Lib.hid (fun W => four_at ((0 : Nat) : Int) 0 rfl hnb W)
              have hrm := Ch.need_room s.length l.length (by rw [← H2.out]; exact hlt)
              obtain  ⟨AA, hAA⟩ : ∃ A : Int, A = (l.length : Int) * 4068 := ⟨_, rfl⟩
              obtain ⟨EE, hEE⟩ : ∃ A : Int, A = ((l.length : Int) + 1) * 4068 := ⟨_, rfl⟩
              have hw1' : IntKind.i64.wrap ((l.length : Int) * 4068) = AA := by rw [hAA]; exact IntWalk.i64_in _ (by omega)
              have hw2' : IntKind.i64.wrap (((l.length : Int) + 1) * 4068) = EE := by rw [hEE]; exact IntWalk.i64_in _ (by omega)
              have hw3 : IntKind.i64.wrap ((l.length : Int) + 1) = (l.length : Int) + 1 := IntWalk.i64_in _ (by omega)
              have hp0 : (0 : Int) ≤ AA := by omega
              have hp1 : AA ≤ s.length := by omega
              have hp2 : AA ≤ EE := by omega
              have hp3 : (0 : Int) ≤ EE := by omega
              have hpt : EE.toNat = (l.length + 1) * 4068 := by omega
              have hpa : AA.toNat = l.length * 4068 := by omega
              have hHE := Lib.hid hEE
              clear hAA hEE
              by_cases hmn : EE ≤ s.length
              all_goals
                try have hmn2 : ¬ (s.length : Int) < EE := by omega
                try have hmn2 : (s.length : Int) < EE := by omega
                have hez : ((str s).extract (l.length * 4068) (min ((l.length + 1) * 4068) s.length)).size ≤ 4068 := by rw [ByteArray.size_extract, hsz]; omega
                have hzz : ¬ 9223372036854775807 < 4 + ((str s).extract (l.length * 4068) (min ((l.length + 1) * 4068) s.length)).size := by omega
                first
                | rw [show min ((l.length + 1) * 4068) s.length = (l.length + 1) * 4068 by have := hHE.out; omega] at hzz
                | rw [show min ((l.length + 1) * 4068) s.length = s.length by have := hHE.out; omega] at hzz
                clear hez
                have hF : Hid (Below w.heap.size w wr.drew) := HB.out.drew
                go_region_with (go_at_call 50; refine (HF4.out _).mono ?_; rintro e w4 ⟨rfl, hb⟩)
                all_goals
                  have HR4 := Lib.hid (ownsRow_below HR3.out hb)
                  have HB4 : Hid (Below w.heap.size w w4) := hF.out.trans (hb.mono hF.out.size)
                  clear hb
                  have hpc := piece_of s l.length hrm
                  have HP : Hid (str (Oc.big 4 0) ++ (str s).extract (l.length * 4068) (min ((l.length + 1) * 4068) s.length) = str (Ch.frAt ids tx s l.length x).body) := by
                    show _ = _
                    rw [hpc, str_append]; unfold Ch.frAt; rw [HNX.out]
                  first
                  | rw [show min ((l.length + 1) * 4068) s.length = (l.length + 1) * 4068 by have := hHE.out; omega] at HP
                  | rw [show min ((l.length + 1) * 4068) s.length = s.length by have := hHE.out; omega] at HP
                  clear hpc hF HR3 HF4
                  have hzl := HZ.out
                  have hfl := flatlF l
                  obtain ⟨z0, ck0⟩ : ∃ z, w4.cell? ⟨g, l.length * 5, none⟩ = some z := ⟨_, (HR4.out.cellAt (l.length * 5) (by omega)).trans (List.getElem?_eq_getElem (by rw [List.length_append, hfl, hzl]; omega))⟩
                  obtain ⟨z1, ck1⟩ : ∃ z, w4.cell? ⟨g, l.length * 5 + 1, none⟩ = some z := ⟨_, (HR4.out.cellAt (l.length * 5 + 1) (by omega)).trans (List.getElem?_eq_getElem (by rw [List.length_append, hfl, hzl]; omega))⟩
                  obtain ⟨z2, ck2⟩ : ∃ z, w4.cell? ⟨g, l.length * 5 + 2, none⟩ = some z := ⟨_, (HR4.out.cellAt (l.length * 5 + 2) (by omega)).trans (List.getElem?_eq_getElem (by rw [List.length_append, hfl, hzl]; omega))⟩
                  obtain ⟨z3, ck3⟩ : ∃ z, w4.cell? ⟨g, l.length * 5 + 3, none⟩ = some z := ⟨_, (HR4.out.cellAt (l.length * 5 + 3) (by omega)).trans (List.getElem?_eq_getElem (by rw [List.length_append, hfl, hzl]; omega))⟩
                  obtain ⟨z4, ck4⟩ : ∃ z, w4.cell? ⟨g, l.length * 5 + 4, none⟩ = some z := ⟨_, (HR4.out.cellAt (l.length * 5 + 4) (by omega)).trans (List.getElem?_eq_getElem (by rw [List.length_append, hfl, hzl]; omega))⟩
                  have fz0 := HR4.out.frozenAt (l.length * 5)
                  have fz1 := HR4.out.frozenAt (l.length * 5 + 1)
                  have fz2 := HR4.out.frozenAt (l.length * 5 + 2)
                  have fz3 := HR4.out.frozenAt (l.length * 5 + 3)
                  have fz4 := HR4.out.frozenAt (l.length * 5 + 4)
                  obtain ⟨zt, hzt, HO7⟩ := storedF HR4.out HZ.out hlt (Ch.frAt ids tx s l.length x)
                  have HZT := Lib.hid hzt
                  have HO8 := Lib.hid HO7
                  have HGB := Lib.hid (show w.heap.size ≤ g from Nat.le_of_eq HG.out)
                  have hw16 : IntKind.u16.wrap (l.length : Int) = (l.length : Int) := by rw [IntKind.wrap_u16]; omega
                  clear hzl hfl hzt HO7
                  rw [HP.out]
                  go_wp2
                  go_roundg (ids.length - (l.length + 1))
                  case measure => omega
                  case rel =>
                    have HLX := HL.out
                    refine ⟨l ++ [Ch.frAt ids tx s l.length x], zt, by rw [List.length_append]; exact hlt, by rw [List.length_append]; rfl, by rw [List.length_append]; go_num, ?_, ?_, ?_, ?_, ?_⟩
                    · show _ = _
                      rw [List.length_append, show l.length + [Ch.frAt ids tx s l.length x].length = l.length + 1 from rfl, Ch.frs_snoc ids tx s l.length x HXX.out, ← HLX]
                    · show _ = _
                      rw [List.length_append]; exact HZT.out
                    · exact HO8.out
                    · intro q id hq hid2
                      by_cases hql : q < l.length
                      · exact HI.out q id hql hid2
                      · obtain rfl : q = l.length := by rw [List.length_append] at hq; simp at hq; omega
                        rw [HXX.out] at hid2
                        cases hid2
                        omega
                    · exact ((((HB4.out.setCell HGB.out _).setCell HGB.out _).setCell HGB.out _).setCell HGB.out _).setCell HGB.out _
        · have hkk : l.length = ids.length := by omega
          have HE := Lib.hid (Ch.err_ok ids s (by omega) H2.out (by rw [← hkk]; exact HI.out))
          have HR : Hid (RowF 37 wr g (.slice (some ⟨g, 0, none⟩) ids.length ids.length) (Ch.frs ids tx s ids.length)) := by
            have hz0 : zs = [] := List.length_eq_zero_iff.1 (by rw [HZ.out, hkk]; omega)
            have hrow := HO.out
            rw [hz0, List.append_nil] at hrow
            have hl2 := HL.out
            rw [hkk] at hl2
            rw [← hl2]
            show wr.ownsRow _ _ _ _ _ _
            rw [hkk]
            exact hrow
          clear hkk
          go_wp2
          go_ret2
          exact .ok _ HE.out rfl (by rw [HG.out]; exact HR.out) HB.out
    · have HE := Lib.hid (Ch.err_need ids s (by omega) h2)
      have h2' : ¬ (ids.length : Int) = (Ch.needN s.length : Nat) := by omega
      go_enter Try.func8, Try.ntmps8
      go_wp2_with (go_at_call 10; refine (HN.out _).mono ?_; rintro e w1 ⟨rfl, rfl⟩)
      go_ret2
      exact .bad (by rw [HE.out]; decide) (by rw [HE.out]; rfl) (Below.refl _ _)
end Go.Proofs.Ytpkoehnjladpoaa
