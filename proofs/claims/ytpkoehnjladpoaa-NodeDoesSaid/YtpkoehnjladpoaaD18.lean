/- Texts of one seat, merged. -/
import Derived.Test.YtpkoehnjladpoaaD16
set_option maxRecDepth 100000
set_option maxHeartbeats 4000000
set_option linter.unusedVariables false
/- The walk of the law NodeDoes. -/
namespace Go.Proofs.Ytpkoehnjladpoaa
open Go.RowKit
open Sl (Cl Kd Nd Rn)
set_option maxHeartbeats 8000000 in
theorem does_in (lf : Bool) (u : Value) (l : List Cl) (x : Cl) (key : List UInt8) (at_ : Int) (hcase : lf = false ∧ (0 ≤ at_ ∧ at_ < (l.length : Int))) (hl0 : l.length ≤ maxLen) (hl : ∀ x ∈ l, okC x) (w : World) (hu : SlC w u l) (hcu : Cap u) :
    Calls Try.prog 4 #[.bool lf, u, .agg #[.string (str x.key), .string (str x.val), .int .u32 x.chain, .int .u32 x.long], .string (str key), .int .i64 at_] w fun e w' => e = .returned (.bool true) ∧ Below w.heap.size w w' := by
  have HIN0 := Lib.hid hcase.2
  have HLF := Lib.hid hcase.1
  clear hcase
  have HUB : Hid (∀ W, Below w.heap.size w W → SlC W u l) := fun W hW => hu.below hW
  have HF1 := Lib.hid (fun W hW => few_any u l hl0 W hW)
  have HF2 := Lib.hid (fun W => few_any _ [x] (by unfold maxLen; simp) _ (slOne W x))
  have HK0 := Lib.hid (Kp.laid (Below.refl _ w) (Nat.le_refl _) #[.string (str x.key), .string (str x.val), .int .u32 x.chain, .int .u32 x.long] 42)
  have HRS := Lib.hid (fun W (hn : l.length ≤ 400) (hW : Below w.heap.size w W) => rising_any u l (by omega) W (hu.below hW))
  have hks := str_size key
  go_enter Try.func4, Try.ntmps4
  go_wp2_with (first
    | (go_at_call 12; refine (nawake_any _).mono ?_; rintro e w1 ⟨rfl, hb1⟩; have HK1 := Lib.hid (HK0.out.step (Nat.le_refl _) hb1); clear hb1)
    | (go_at_call 13; refine (HF1.out _ (HUB.out _ HK1.out.below)).mono ?_))
  rintro e w2 (⟨rfl, hfl, hb2⟩ | ⟨rfl, hb2⟩)
  · have HK2 := Lib.hid (HK1.out.step (Nat.le_refl _) hb2)
    clear hb2
    have hl4 : l.length ≤ 400 := hfl.1
    obtain ⟨⟨c0, c1, c2, c3⟩, _⟩ := HK2.out.four
    go_wp2_with (go_at_call 13; refine (HF2.out _).mono ?_)
    rintro e w3 (⟨rfl, hfx, hb3⟩ | ⟨rfl, hb3⟩)
    · have HK3 := Lib.hid ((HK2.out.step (Nat.le_refl _) (oneB w2 _)).step (Nat.le_refl _) hb3)
      clear hb3 c0 c1 c2 c3 hfx
      cases hrs : Sl.rises Sl.shC l with
      | false =>
        rw [hrs] at HRS
        clear hrs
        go_wp2_with (go_at_call 14; (refine (HRS.out _ hl4 HK3.out.below).mono ?_); rintro e w4 ⟨rfl, hb4⟩)
        go_ret
        exact ⟨rfl, HK3.out.below.trans (hb4.mono HK3.out.below.size)⟩
      | true =>
        have HUP := Lib.hid hrs
        rw [hrs] at HRS
        clear hrs
        by_cases hkl : (300 : Int) < (key.length : Int)
        · go_wp2_with (go_at_call 14; (refine (HRS.out _ hl4 HK3.out.below).mono ?_); rintro e w4 ⟨rfl, hb4⟩)
          go_ret
          exact ⟨rfl, HK3.out.below.trans (hb4.mono HK3.out.below.size)⟩
        · have HFR1 := Lib.hid (fun W (hW : Below w.heap.size w W) => from_any lf u l W (HUB.out W hW) hcu (by omega))
          have HFR0 := Lib.hid (fun W v (hv : RowC W W.heap.size v l ∨ True) (hs : SlC W v l) (hc : Cap v) => from_any lf v l W hs hc (by omega))
          have HCU := Lib.hid hcu
          obtain ⟨uc, ul, uC, _, _, _⟩ := hcu
          have hul : ul = l.length := by obtain ⟨_, _, _, _, h, _⟩ := hu; simp at h; exact h.2.1
          subst hul
          have PL : (Sl.fromN lf l).leaf = lf := by cases lf <;> rfl
          have PA := Lib.hid (Sl.lim_from lf l 400 hl4)
          have HNL : Hid (lf = true → Sl.fromN lf l = ⟨true, l, []⟩) := fun h => by rw [h]; rfl
          have HNK : Hid (lf = false → Sl.fromN lf l = ⟨false, [], l.map toK⟩) := fun h => by rw [h]; rfl
          have HL4 := Lib.hid hl4
          clear HF1 HF2 HK1 hfl hl hl0 hu hl4
          generalize Sl.fromN lf l = N at *
          go_upto_region 5 with (go_at_call 14; (refine (HRS.out _ HL4.out HK3.out.below).mono ?_); rintro e w4 ⟨rfl, hb4⟩; have HK4 := Lib.hid (HK3.out.step (Nat.le_refl _) hb4); clear hb4)
          obtain ⟨v5, w5, hrun5, hr5, _, hb5⟩ := appC w4 w4.heap.size (.slice none 0 0) (.slice uc l.length uC) [] l 40 (Nat.le_refl _) (World.ownsRow_nil _ _ _ _) (HUB.out _ HK4.out.below) HCU.out (by decide) (by have := HL4.out; omega)
          rw [List.nil_append] at hr5
          obtain ⟨a5, n5, c5, ha5, hc5, hn5⟩ := hr5.cap
          have HR5 := Lib.hid hr5
          have HC5 := Lib.hid (Cap.mk a5 n5 c5 ha5 hc5 hn5)
          have HK5 := Lib.hid (HK4.out.step (Nat.le_refl _) hb5)
          clear hr5 hb5 HK2 HK3 HRS
          go_upto_region 6 with (first
            | (go_at_call 15; (with_reducible refine (HFR0.out _ _ (.inr trivial) HR5.out.sl HC5.out).mono ?_); rintro e w6 ⟨xv, rfl, hx, hb6⟩; obtain ⟨x1, x2, x3, x4, x5, x6, rfl⟩ := hx.form; have HX := Lib.hid hx; have HK6 := Lib.hid (HK5.out.step (Nat.le_refl _) hb6); clear hx hb6)
            | (at_builtin; refine Lib.wpList_append_run _ rfl _ _ _ _ rfl _ _ rfl rfl _ _ hrun5 ?_))
          rw [PL] at HX
          have HPL := Lib.hid PL
          have HK7 := Lib.hid (HK6.out.more (Nat.le_refl _) #[.bool lf, .slice x1 x2 x3, .slice x4 x5 x6] 46)
          have HX7 := Lib.hid (HX.out.below (oneB w6 (.cells #[.bool lf, .slice x1 x2 x3, .slice x4 x5 x6] 46)))
          clear HX HK6 HK5 HR5 HC5 PL hrun5 HFR0
          generalize (w6.alloc (.cells #[.bool lf, .slice x1 x2 x3, .slice x4 x5 x6] 46)) = W7 at HK7 HX7 ⊢
          generalize w6.heap.size = p at HK7 ⊢
          have HTO := Lib.hid (fun W v (hv : NdV W v N) => to_any v N W hv (by have := PA.out.2; omega))
          go_upto_region 7 with (first
            | (go_at_call 16; (with_reducible refine (HTO.out _ _ HX8.out).mono ?_); rintro e w9 ⟨yv, rfl, hy, hb9⟩; obtain ⟨y1, y2, y3, hyv⟩ := hy.form; rw [show (Sl.toR N).leaf = lf from HPL.out] at hyv; subst hyv; have HY := Lib.hid hy; have HX9 := Lib.hid ((HX7.out.below HB8.out).below hb9); have HK9 := Lib.hid (HK8.out.step (Nat.le_refl _) hb9); clear hy hb9)
            | (go_at_call 15; (with_reducible refine (HFR1.out _ HK7.out.below).mono ?_); rintro e w8 ⟨xv, rfl, hx, hb8⟩; obtain ⟨z1, z2, z3, z4, z5, z6, rfl⟩ := hx.form; have HX8 := Lib.hid hx; have HB8 := Lib.hid hb8; have HK8 := Lib.hid (HK7.out.step (Nat.le_refl _) hb8); clear hx hb8))
          have HK10 := Lib.hid (HK9.out.more (Nat.le_refl _) #[.bool lf, .slice y1 y2 y3] 49)
          have HX10 := Lib.hid (HX9.out.below (oneB w9 (.cells #[.bool lf, .slice y1 y2 y3] 49)))
          have HY10 := Lib.hid (HY.out.below (oneB w9 (.cells #[.bool lf, .slice y1 y2 y3] 49)))
          clear HX7 HX8 HX9 HB8 HY HK7 HK8 HK9 HFR1 HTO
          generalize (w9.alloc (.cells #[.bool lf, .slice y1 y2 y3] 49)) = W10 at HK10 HX10 HY10 ⊢
          generalize w9.heap.size = q at HK10 ⊢
          obtain ⟨⟨c0, c1, c2, c3⟩, _⟩ := HK10.out.left.left.four
          go_upto_region 8 with fail
          have HK11 := Lib.hid (HK10.out.more (Nat.le_refl _) #[.string (str x.key), .int .u32 x.chain] 52)
          have HX11 := Lib.hid (HX10.out.below (oneB W10 (.cells #[.string (str x.key), .int .u32 x.chain] 52)))
          have HY11 := Lib.hid (HY10.out.below (oneB W10 (.cells #[.string (str x.key), .int .u32 x.chain] 52)))
          clear HK10 HX10 HY10 c0 c1 c2 c3
          generalize (W10.alloc (.cells #[.string (str x.key), .int .u32 x.chain] 52)) = W11 at HK11 HX11 HY11 ⊢
          generalize W10.heap.size = kb at HK11 ⊢
          cases lf with
          | false =>
            obtain rfl : N = ⟨false, [], l.map toK⟩ := HNK.out rfl
            have HUK : Hid (Sl.rises Sl.shK (l.map toK) = true) := (Sl.rises_kids l).trans HUP.out
            have HL4K : Hid ((l.map toK).length ≤ 400) := by show _ ≤ _; rw [List.length_map]; exact HL4.out
            have HKL : Hid ((l.map toK).length = l.length) := List.length_map ..
            clear HNL HNK PA HPL
            have hks' : (Sl.toR ⟨false, [], l.map toK⟩) = ⟨false, (l.map toK).map toC⟩ := rfl
            rw [hks'] at HY11
            clear hks'
            generalize l.map toK = ks at *
            have HRL : Hid ((ks.map toC).length = ks.length) := List.length_map ..
            obtain ⟨R, hR⟩ : ∃ R, ks.map toC = R := ⟨_, rfl⟩
            rw [hR] at HY11 HRL
            have HRR := Lib.hid hR
            clear hR
            obtain ⟨HYS, HYC⟩ := RnV.slc HY11.out
            have HYS' := Lib.hid HYS
            have HYC' := Lib.hid HYC
            have hy22 : y2 = R.length := by
              obtain ⟨ya, yc, hy2⟩ := HYS.form3
              simp only [Value.slice.injEq] at hy2
              exact hy2.2.1
            subst hy22
            clear HYS HYC
            obtain ⟨v12, w12, hrun12, hr12, _, hb12⟩ := appC W11 W11.heap.size (.slice none 0 0) (.slice y1 R.length y3) [] R 40 (Nat.le_refl _) (World.ownsRow_nil _ _ _ _) HYS'.out HYC'.out (by decide) (by have := HL4K.out; rw [HRL.out]; omega)
            rw [List.nil_append] at hr12
            obtain ⟨t1, t2, rfl, hct⟩ := hr12.form
            have HR12 := Lib.hid hr12
            have HCT := Lib.hid hct
            have HK12 := Lib.hid (HK11.out.step (Nat.le_refl _) hb12)
            have HX12 := Lib.hid (HX11.out.below hb12)
            have HY12 := Lib.hid (HY11.out.below hb12)
            have HTL : Hid (∀ k, (Value.slice t1 R.length t2).ownBlock = some k → k < w12.heap.size) := hr12.lo
            have HGE := Lib.hid (show ∀ g, t1 = some ⟨g, 0, none⟩ → R.length ≠ 0 → W11.heap.size ≤ g from fun g hg hn => by
              obtain ⟨g', cap, hav, hg', _⟩ := row_someC hr12 (by omega)
              simp only [Value.slice.injEq] at hav
              rw [hg] at hav
              have h1 := hav.1
              injection h1 with h1
              injection h1 with h1 _ _
              rw [h1]; exact hg')
            obtain ⟨⟨c0, c1⟩, _⟩ := HK11.out.left.right.two
            have hb12k := hb12
            clear hr12 hct hb12
            go_upto_region 21 with (at_builtin; refine Lib.wpList_append_run _ rfl _ _ _ _ rfl _ _ rfl rfl _ _ hrun12 ?_)
            have HK13 := Lib.hid (HK12.out.more (Nat.le_refl _) #[.bool false, .slice t1 R.length t2] 49)
            have HR13 := Lib.hid (HR12.out.below (oneB w12 (.cells #[.bool false, .slice t1 R.length t2] 49)))
            have HLT12 := Lib.hid HK12.out.lts
            have HLT11 := Lib.hid HK11.out.lts
            have HB11 := Lib.hid HK11.out.below.size
            have HBW := Lib.hid (hb12k.trans ((oneB w12 (.cells #[.bool false, .slice t1 R.length t2] 49)).mono hb12k.size))
            clear HK11 HK12 HX12 HY12 HR12 c0 c1 hrun12 HYS' HYC' hb12k
            generalize (w12.alloc (.cells #[.bool false, .slice t1 R.length t2] 49)) = W13 at HK13 HBW HR13 ⊢
            generalize w12.heap.size = tb at HK13 HTL HLT12 ⊢
            obtain ⟨⟨b0, b1⟩, bf0, bf1⟩ := HK13.out.right.two
            obtain ⟨⟨c0, c1, c2, c3⟩, _⟩ := HK13.out.left.left.left.left.four
            have hin : 0 ≤ at_ ∧ at_ < (R.length : Int) := by have h1 := HIN0.out; have h2 := HRL.out; have h3 := HKL.out; omega
            obtain ⟨ap, hap⟩ : ∃ ap : Nat, at_ = ap := ⟨at_.toNat, by omega⟩
            have hin1 := hin.1
            have hin2 := hin.2
            have hpl : ap < R.length := by omega
            obtain ⟨g, cap, hav, hg, hnc, hcm, hcell, hfr⟩ := row_someC HR13.out (by omega)
            simp only [Value.slice.injEq] at hav
            obtain ⟨rfl, _, rfl⟩ := hav
            have HGT : Hid (g < tb) := HTL.out g rfl
            have HG := Lib.hid hg
            obtain ⟨y, hy⟩ : ∃ y, R[ap]? = some y := ⟨_, List.getElem?_eq_getElem hpl⟩
            have ck := hcell (ap * 4 + 2) _ (flat_at cellsC 4 cellsC_len R ap 2 y hy (by decide))
            have fk := hfr (ap * 4 + 2)
            have HR14 : Hid (RowC (W13.setCell ⟨g, ap * 4 + 2, none⟩ (.int .u32 x.chain)) W11.heap.size (.slice (some ⟨g, 0, none⟩) R.length t2) (Sl.setChain R at_ x.chain)) := by
              rw [hap]; exact turned_any HR13.out ap x.chain hpl
            have HB14 : Hid (Below W11.heap.size W11 (W13.setCell ⟨g, ap * 4 + 2, none⟩ (.int .u32 x.chain))) := HBW.out.setCell (p := ⟨g, ap * 4 + 2, none⟩) HG.out _
            have HK14 := Lib.hid (HK13.out.set (p := ⟨g, ap * 4 + 2, none⟩) (fun z hz h => by
              have h1 := HG.out
              have h2 := HGT.out
              rcases List.mem_append.1 hz with hz | hz
              · have := HLT11.out z hz; rw [h] at this; exact absurd this (by show ¬ g < _; omega)
              · have := row1_block hz; rw [h] at this; exact absurd this (by show ¬ g = _; omega)) (by have h1 := HG.out; have h2 := HB11.out; show _ ≤ g; omega) (.int .u32 x.chain))
            clear hcell hfr hg hnc hcm hy hin HK13 HR13
            subst hap
            go_upto_region 23 with fail
            clear ck fk b0 b1 bf0 bf1 c0 c1 c2 c3 hin1 hin2 hpl
            generalize (W13.setCell ⟨g, ap * 4 + 2, none⟩ (.int .u32 x.chain)) = W14 at HR14 HB14 HK14 ⊢
            generalize (ap : Int) = at_ at *
            have HX14 := Lib.hid (HX11.out.below HB14.out)
            have HY14 := Lib.hid (HY11.out.below HB14.out)
            clear HX11 HY11 HBW HB14
            have HCUT := Lib.hid (cutK_any _ ⟨false, [], ks⟩ key W14 HX14.out rfl (by have := HL4K.out; show ks.length ≤ _; omega))
            obtain ⟨⟨c0, c1, c2⟩, _⟩ := HK14.out.left.left.left.right.three
            go_upto_region 24 with (go_at_call 17; (refine HCUT.out.mono ?_); rintro e w15 ⟨vk, he, hv, hq, hb15⟩; obtain ⟨m1, m2, rfl⟩ := hv.form3; change e = Ending.returned (.tuple #[.agg #[.bool false, .slice none 0 0, .slice m1 ks.length m2], .agg #[.string ⟨#[]⟩, .string ⟨#[]⟩, .int .u32 0, .int .u32 0], .bool false]) at he; subst he; have HM15 := Lib.hid hv; have HMC := Lib.hid hq; have HK15 := Lib.hid (HK14.out.step (Nat.le_refl _) hb15); have HX15 := Lib.hid (HX14.out.below hb15); have HY15 := Lib.hid (HY14.out.below hb15); have HT15 := Lib.hid (HR14.out.below hb15); clear hv hq hb15)
            have HK16 := Lib.hid (twoM HK15.out #[.bool false, .slice none 0 0, .slice m1 ks.length m2] 46 #[.string ⟨#[]⟩, .string ⟨#[]⟩, .int .u32 0, .int .u32 0] 42)
            have hB16 := twoB2 w15 (.cells #[.bool false, .slice none 0 0, .slice m1 ks.length m2] 46) (.cells #[.string ⟨#[]⟩, .string ⟨#[]⟩, .int .u32 0, .int .u32 0] 42)
            have HM16 : Hid (NdV ((w15.alloc (.cells #[.bool false, .slice none 0 0, .slice m1 ks.length m2] 46)).alloc (.cells #[.string ⟨#[]⟩, .string ⟨#[]⟩, .int .u32 0, .int .u32 0] 42)) (.agg #[.bool false, .slice none 0 0, .slice m1 ks.length m2]) ⟨false, [], ks⟩) := ⟨_, _, rfl, SlC.nil _, cap_nil, HM15.out.below hB16, HMC.out⟩
            have HX16 := Lib.hid (HX15.out.below hB16)
            have HY16 := Lib.hid (HY15.out.below hB16)
            have HT16 : Hid (RnV ((w15.alloc (.cells #[.bool false, .slice none 0 0, .slice m1 ks.length m2] 46)).alloc (.cells #[.string ⟨#[]⟩, .string ⟨#[]⟩, .int .u32 0, .int .u32 0] 42)) (.agg #[.bool false, .slice (some ⟨g, 0, none⟩) R.length t2]) (Sl.toR ⟨false, [], Sl.setPage ks at_ x.chain⟩)) := by
              rw [Sl.toR_page, HRR.out]
              exact ⟨_, rfl, (HT15.out.below hB16).sl, HCT.out⟩
            clear HK14 HK15 HX14 HX15 HY14 HY15 HT15 HR14 HM15 hB16 HCUT c0 c1 c2
            generalize ((w15.alloc (.cells #[.bool false, .slice none 0 0, .slice m1 ks.length m2] 46)).alloc (.cells #[.string ⟨#[]⟩, .string ⟨#[]⟩, .int .u32 0, .int .u32 0] 42)) = W16 at HK16 HM16 HX16 HY16 HT16 ⊢
            generalize w15.heap.size = mb at HK16 ⊢
            obtain ⟨⟨c0, c1, c2, c3⟩, _⟩ := HK16.out.left.left.left.left.left.left.four
            obtain ⟨⟨p0, p1, p2⟩, _⟩ := HK16.out.left.left.left.left.left.right.three
            obtain ⟨⟨q0, q1⟩, _⟩ := HK16.out.left.left.left.left.right.two
            obtain ⟨⟨k0, k1⟩, _⟩ := HK16.out.left.left.left.right.two
            obtain ⟨⟨u0, u1⟩, _⟩ := HK16.out.left.left.right.two
            obtain ⟨⟨n0, n1, n2⟩, _⟩ := HK16.out.left.right.three
            have hF : Hid (W16.drew.cell? ⟨mb, 0, none⟩ = some (.bool false) ∧ W16.drew.cell? ⟨mb, 1, none⟩ = some (.slice none 0 0) ∧ W16.drew.cell? ⟨mb, 2, none⟩ = some (.slice m1 ks.length m2) ∧ W16.drew.cell? ⟨p, 0, none⟩ = some (.bool false) ∧ W16.drew.cell? ⟨p, 1, none⟩ = some (.slice x1 x2 x3) ∧ W16.drew.cell? ⟨p, 2, none⟩ = some (.slice x4 x5 x6) ∧ W16.drew.cell? ⟨w.heap.size, 0, none⟩ = some (.string (str x.key)) ∧ W16.drew.cell? ⟨w.heap.size, 1, none⟩ = some (.string (str x.val)) ∧ W16.drew.cell? ⟨w.heap.size, 2, none⟩ = some (.int .u32 x.chain) ∧ W16.drew.cell? ⟨w.heap.size, 3, none⟩ = some (.int .u32 x.long) ∧ W16.drew.cell? ⟨q, 0, none⟩ = some (.bool false) ∧ W16.drew.cell? ⟨q, 1, none⟩ = some (.slice y1 R.length y3) ∧ W16.drew.cell? ⟨kb, 0, none⟩ = some (.string (str x.key)) ∧ W16.drew.cell? ⟨kb, 1, none⟩ = some (.int .u32 x.chain) ∧ W16.drew.cell? ⟨tb, 0, none⟩ = some (.bool false) ∧ W16.drew.cell? ⟨tb, 1, none⟩ = some (.slice (some ⟨g, 0, none⟩) R.length t2) ∧ Below W16.heap.size W16 W16.drew) := ⟨n0, n1, n2, p0, p1, p2, c0, c1, c2, c3, q0, q1, k0, k1, u0, u1, (Below.refl _ _).drew⟩
            clear c0 c1 c2 c3 p0 p1 p2 q0 q1 k0 k1 u0 u1 n0 n1 n2
            have hkl' := HL4K.out
            have HRK : Hid (Sl.toR ⟨false, [], ks⟩ = ⟨false, R⟩) := by show (⟨false, ks.map toC⟩ : Rn) = _; rw [HRR.out]
            rw [← HRK.out] at HY16
            have hrl := HRL.out
            have HRTE : Hid (Sl.rt Sl.shC R key R.length = Sl.rt Sl.shK ks key ks.length) := by show _ = _; rw [hrl, ← HRR.out, Sl.rt_map]
            have HSQ := Lib.hid (fun W v (hv : NdV W v ⟨false, [], ks⟩) (hW : Below W16.heap.size W16 W) => lsame_any v _ ⟨false, [], ks⟩ W hv (HY16.out.below hW) (Nat.zero_le _) (show ks.length ≤ 100000 by omega))
            have HPU := Lib.hid (fun W (hW : Below W16.heap.size W16 W) => put_branch _ ⟨false, [], ks⟩ x W (HX16.out.below hW) rfl (show ks.length ≤ 100000 by omega))
            unfold aggC at HPU
            have HRO := Lib.hid (fun W (hW : Below W16.heap.size W16 W) => route_branch _ ⟨false, [], ks⟩ key W (HX16.out.below hW) rfl (show ks.length ≤ 100000 by omega))
            have HRO2 := Lib.hid (fun W (hW : Below W16.heap.size W16 W) => rroute_any _ (Sl.toR ⟨false, [], ks⟩) key W (HY16.out.below hW) rfl (by rw [HRK.out]; show R.length ≤ _; omega))
            rw [HRK.out] at HRO2
            change Hid (∀ W, _ → Calls _ _ _ W (fun e w' => e = Ending.returned (.int .i64 ((Sl.rt Sl.shC R key R.length : Nat) : Int)) ∧ _)) at HRO2
            rw [HRTE.out] at HRO2
            change Hid (∀ W, _ → Calls _ _ _ W (fun e w' => e = Ending.returned (.int .i64 ((Sl.rt Sl.shK ks key ks.length : Nat) : Int)) ∧ _)) at HRO
            have HTU := Lib.hid (fun W (hW : Below W16.heap.size W16 W) => turnK_all _ ks at_ x.chain W (HX16.out.below hW) (by omega))
            have hpgl := Sl.setPage_len ks at_ x.chain
            have HST := Lib.hid (fun W v (hv : NdV W v ⟨false, [], Sl.setPage ks at_ x.chain⟩) (hW : Below W16.heap.size W16 W) => lsame_any v _ ⟨false, [], Sl.setPage ks at_ x.chain⟩ W hv (HT16.out.below hW) (Nat.zero_le _) (show (Sl.setPage ks at_ x.chain).length ≤ 100000 by omega))
            have HIN := Lib.hid (fun W (hW : Below W16.heap.size W16 W) => putK_any _ ⟨false, [], ks⟩ ⟨x.key, x.chain⟩ W (HX16.out.below hW) rfl (show ks.length ≤ 90000 by omega) HUK.out)
            unfold aggK at HIN
            have HPD := Lib.hid (fun W (hW : Below W16.heap.size W16 W) => rplaced_any _ (Sl.toR ⟨false, [], ks⟩) (toC ⟨x.key, x.chain⟩) W (HY16.out.below hW) (by rw [HRK.out]; show R.length ≤ _; omega))
            rw [← Sl.toR_insert] at HPD
            change Hid (∀ W, _ → Calls _ _ #[_, .agg #[.string (str x.key), .string ⟨#[]⟩, .int .u32 x.chain, .int .u32 0]] W _) at HPD
            have hpll := Sl.putL_len Sl.shK ks ⟨x.key, x.chain⟩
            have HSI := Lib.hid (fun W a b (ha : NdV W a ⟨false, [], Sl.putL Sl.shK ks ⟨x.key, x.chain⟩⟩) (hb : RnV W b (Sl.toR ⟨false, [], Sl.putL Sl.shK ks ⟨x.key, x.chain⟩⟩)) => lsame_any a b _ W ha hb (Nat.zero_le _) (show (Sl.putL Sl.shK ks ⟨x.key, x.chain⟩).length ≤ 100000 by omega))
            change Hid (∀ W, _ → Calls _ _ _ W (RetN ⟨false, [], Sl.putL Sl.shK ks ⟨x.key, x.chain⟩⟩ W)) at HIN
            have HRE := Lib.hid (fun W (hW : Below W16.heap.size W16 W) => remK_all _ ks at_ W (HX16.out.below hW) (by omega))
            have HWO := Lib.hid (fun W (hW : Below W16.heap.size W16 W) => rwithout_any _ (Sl.toR ⟨false, [], ks⟩) at_ W (HY16.out.below hW) (by rw [HRK.out]; show R.length ≤ _; omega))
            rw [← Sl.toR_rem ⟨false, [], ks⟩ at_ rfl] at HWO
            have hrml := remN_len ks at_
            have hrmc := remN_cs ks at_
            have HSR := Lib.hid (fun W a b (ha : NdV W a (Sl.remN ⟨false, [], ks⟩ at_)) (hb : RnV W b (Sl.toR (Sl.remN ⟨false, [], ks⟩ at_))) => lsame_any a b _ W ha hb (by omega) (by omega))
            clear hkl' hrl hpgl hpll hrml hrmc HUK HRTE HRK HT16 HY16
            generalize Sl.rt Sl.shK ks key ks.length = rr at *
            generalize Sl.putL Sl.shK ks ⟨x.key, x.chain⟩ = PP at *
            generalize Sl.remN ⟨false, [], ks⟩ at_ = RM at *
            generalize Sl.setPage ks at_ x.chain = SP at *
            go_wp2_with fail
            go_region_held3 (fun w' => w'.cell? ⟨mb, 0, none⟩ = some (.bool false) ∧ w'.cell? ⟨mb, 1, none⟩ = some (.slice none 0 0) ∧ w'.cell? ⟨mb, 2, none⟩ = some (.slice m1 ks.length m2) ∧ w'.cell? ⟨p, 0, none⟩ = some (.bool false) ∧ w'.cell? ⟨p, 1, none⟩ = some (.slice x1 x2 x3) ∧ w'.cell? ⟨p, 2, none⟩ = some (.slice x4 x5 x6) ∧ w'.cell? ⟨w.heap.size, 0, none⟩ = some (.string (str x.key)) ∧ w'.cell? ⟨w.heap.size, 1, none⟩ = some (.string (str x.val)) ∧ w'.cell? ⟨w.heap.size, 2, none⟩ = some (.int .u32 x.chain) ∧ w'.cell? ⟨w.heap.size, 3, none⟩ = some (.int .u32 x.long) ∧ w'.cell? ⟨q, 0, none⟩ = some (.bool false) ∧ w'.cell? ⟨q, 1, none⟩ = some (.slice y1 R.length y3) ∧ w'.cell? ⟨kb, 0, none⟩ = some (.string (str x.key)) ∧ w'.cell? ⟨kb, 1, none⟩ = some (.int .u32 x.chain) ∧ w'.cell? ⟨tb, 0, none⟩ = some (.bool false) ∧ w'.cell? ⟨tb, 1, none⟩ = some (.slice (some ⟨g, 0, none⟩) R.length t2) ∧ Below W16.heap.size W16 w')
              ((first | assumption | exact step16w (Nat.le_refl _) ‹_› hb | exact hF.out))
              (first
              | (go_at_call 18; (with_reducible refine (HSQ.out _ _ (HX16.out.below (last16w (by assumption))) (last16w (by assumption))).mono ?_); rintro e w35 ⟨rfl, hb⟩)
              | (go_at_call 18; (with_reducible refine (HSR.out _ _ _ HN33.out HV33.out).mono ?_); rintro e w34 ⟨rfl, hb⟩)
              | (go_at_call 19; (with_reducible refine (HWO.out _ (last16w (by assumption))).mono ?_); rintro e w33 ⟨v33, rfl, hv33, hb⟩; have HV33 := Lib.hid hv33; have HN33 := Lib.hid (HN32.out.below hb); clear hv33)
              | (go_at_call 24; (with_reducible refine (HRE.out _ (last16w (by assumption))).mono ?_); rintro e w32 ⟨v32, rfl, hv32, hb⟩; have HN32 := Lib.hid hv32; clear hv32)
              | (go_at_call 18; (with_reducible refine (HSI.out _ _ _ HN30.out HV30.out).mono ?_); rintro e w31 ⟨rfl, hb⟩)
              | (go_at_call 21; (with_reducible refine (HPD.out _ (last16w (by assumption))).mono ?_); rintro e w30 ⟨v30, rfl, hv30, hb⟩; have HV30 := Lib.hid hv30; have HN30 := Lib.hid (HN29.out.below hb); clear hv30)
              | (go_at_call 23; (with_reducible refine (HIN.out _ (last16w (by assumption))).mono ?_); rintro e w29 ⟨v29, rfl, hv29, hb⟩; have HN29 := Lib.hid hv29; clear hv29)
              | (go_at_call 18; (with_reducible refine (HST.out _ _ HN27.out (last16w (by assumption))).mono ?_); rintro e w28 ⟨rfl, hb⟩)
              | (go_at_call 22; (with_reducible refine (HTU.out _ (last16w (by assumption))).mono ?_); rintro e w27 ⟨v27, rfl, hv27, hb⟩; have HN27 := Lib.hid hv27; clear hv27)
              | (go_at_call 26; (with_reducible refine (HRO2.out _ (last16w (by assumption))).mono ?_); rintro e w26 ⟨rfl, hb⟩)
              | (go_at_call 25; (with_reducible refine (HRO.out _ (last16w (by assumption))).mono ?_); rintro e w25 ⟨rfl, hb⟩)
              | (go_at_call 18; (with_reducible refine (HSQ.out _ _ HN23.out (last16w (by assumption))).mono ?_); rintro e w24 ⟨rfl, hb⟩)
              | (go_at_call 20; (with_reducible refine (HPU.out _ (last16w (by assumption))).mono ?_); rintro e w23 ⟨v23, rfl, hv23, hb⟩; have HN23 := Lib.hid hv23; clear hv23)
              | (go_at_call 18; (with_reducible refine (HSQ.out _ _ (HM16.out.below (last16w (by assumption))) (last16w (by assumption))).mono ?_); rintro e w22 ⟨rfl, hb⟩))
            rename_i hS
            have HB30 := Lib.hid (last16w hS)
            have HW16 := Lib.hid HK16.out.below
            clear hS hF
            go_wp2
            go_ret
            exact ⟨rfl, HW16.out.trans (HB30.out.mono HW16.out.size)⟩
          | true => exact absurd HLF.out (by simp)
    · have HK3 := Lib.hid ((HK2.out.step (Nat.le_refl _) (oneB w2 _)).step (Nat.le_refl _) hb3)
      go_wp2
      go_ret
      exact ⟨rfl, HK3.out.below⟩
  · have HK2 := Lib.hid (HK1.out.step (Nat.le_refl _) hb2)
    go_wp2
    go_ret
    exact ⟨rfl, HK2.out.below⟩
end Go.Proofs.Ytpkoehnjladpoaa
