/- Texts of one seat, merged. -/
import Derived.Test.YtpkoehnjladpoaaD16
set_option maxRecDepth 100000
set_option maxHeartbeats 4000000
set_option linter.unusedVariables false
/- The walk of the law NodeDoes. -/
namespace Go.Proofs.Ytpkoehnjladpoaa
open Go.RowKit
open Sl (Cl Kd Nd Rn)
set_option maxHeartbeats 8000000 in
theorem does_true (lf : Bool) (u : Value) (l : List Cl) (x : Cl) (key : List UInt8) (at_ : Int) (hcase : lf = true ∧ True) (hl0 : l.length ≤ maxLen) (hl : ∀ x ∈ l, okC x) (w : World) (hu : SlC w u l) (hcu : Cap u) :
    Calls Try.prog 4 #[.bool lf, u, .agg #[.string (str x.key), .string (str x.val), .int .u32 x.chain, .int .u32 x.long], .string (str key), .int .i64 at_] w fun e w' => e = .returned (.bool true) ∧ Below w.heap.size w w' := by
  have HIN0 := Lib.hid hcase.2
  have HLF := Lib.hid hcase.1
  clear hcase
  have HUB : Hid (∀ W, Below w.heap.size w W → SlC W u l) := fun W hW => hu.below hW
  have HF1 := Lib.hid (fun W hW => few_any u l hl0 W hW)
  have HF2 := Lib.hid (fun W => few_any _ [x] (by unfold maxLen; simp) _ (slOne W x))
  have HK0 := Lib.hid (Kp.laid (Below.refl _ w) (Nat.le_refl _) #[.string (str x.key), .string (str x.val), .int .u32 x.chain, .int .u32 x.long] 42)
  have HRS := Lib.hid (fun W (hn : l.length ≤ 400) (hW : Below w.heap.size w W) => rising_any u l (by omega) W (hu.below hW))
  have hks := str_size key
  go_enter Try.func4, Try.ntmps4
  go_wp2_with (first
    | (go_at_call 12; refine (nawake_any _).mono ?_; rintro e w1 ⟨rfl, hb1⟩; have HK1 := Lib.hid (HK0.out.step (Nat.le_refl _) hb1); clear hb1)
    | (go_at_call 13; refine (HF1.out _ (HUB.out _ HK1.out.below)).mono ?_))
  rintro e w2 (⟨rfl, hfl, hb2⟩ | ⟨rfl, hb2⟩)
  · have HK2 := Lib.hid (HK1.out.step (Nat.le_refl _) hb2)
    clear hb2
    have hl4 : l.length ≤ 400 := hfl.1
    obtain ⟨⟨c0, c1, c2, c3⟩, _⟩ := HK2.out.four
    go_wp2_with (go_at_call 13; refine (HF2.out _).mono ?_)
    rintro e w3 (⟨rfl, hfx, hb3⟩ | ⟨rfl, hb3⟩)
    · have HK3 := Lib.hid ((HK2.out.step (Nat.le_refl _) (oneB w2 _)).step (Nat.le_refl _) hb3)
      clear hb3 c0 c1 c2 c3 hfx
      cases hrs : Sl.rises Sl.shC l with
      | false =>
        rw [hrs] at HRS
        clear hrs
        go_wp2_with (go_at_call 14; (refine (HRS.out _ hl4 HK3.out.below).mono ?_); rintro e w4 ⟨rfl, hb4⟩)
        go_ret
        exact ⟨rfl, HK3.out.below.trans (hb4.mono HK3.out.below.size)⟩
      | true =>
        have HUP := Lib.hid hrs
        rw [hrs] at HRS
        clear hrs
        by_cases hkl : (300 : Int) < (key.length : Int)
        · go_wp2_with (go_at_call 14; (refine (HRS.out _ hl4 HK3.out.below).mono ?_); rintro e w4 ⟨rfl, hb4⟩)
          go_ret
          exact ⟨rfl, HK3.out.below.trans (hb4.mono HK3.out.below.size)⟩
        · have HFR1 := Lib.hid (fun W (hW : Below w.heap.size w W) => from_any lf u l W (HUB.out W hW) hcu (by omega))
          have HFR0 := Lib.hid (fun W v (hv : RowC W W.heap.size v l ∨ True) (hs : SlC W v l) (hc : Cap v) => from_any lf v l W hs hc (by omega))
          have HCU := Lib.hid hcu
          obtain ⟨uc, ul, uC, _, _, _⟩ := hcu
          have hul : ul = l.length := by obtain ⟨_, _, _, _, h, _⟩ := hu; simp at h; exact h.2.1
          subst hul
          have PL : (Sl.fromN lf l).leaf = lf := by cases lf <;> rfl
          have PA := Lib.hid (Sl.lim_from lf l 400 hl4)
          have HNL : Hid (lf = true → Sl.fromN lf l = ⟨true, l, []⟩) := fun h => by rw [h]; rfl
          have HNK : Hid (lf = false → Sl.fromN lf l = ⟨false, [], l.map toK⟩) := fun h => by rw [h]; rfl
          have HL4 := Lib.hid hl4
          clear HF1 HF2 HK1 hfl hl hl0 hu hl4
          generalize Sl.fromN lf l = N at *
          go_upto_region 5 with (go_at_call 14; (refine (HRS.out _ HL4.out HK3.out.below).mono ?_); rintro e w4 ⟨rfl, hb4⟩; have HK4 := Lib.hid (HK3.out.step (Nat.le_refl _) hb4); clear hb4)
          obtain ⟨v5, w5, hrun5, hr5, _, hb5⟩ := appC w4 w4.heap.size (.slice none 0 0) (.slice uc l.length uC) [] l 40 (Nat.le_refl _) (World.ownsRow_nil _ _ _ _) (HUB.out _ HK4.out.below) HCU.out (by decide) (by have := HL4.out; omega)
          rw [List.nil_append] at hr5
          obtain ⟨a5, n5, c5, ha5, hc5, hn5⟩ := hr5.cap
          have HR5 := Lib.hid hr5
          have HC5 := Lib.hid (Cap.mk a5 n5 c5 ha5 hc5 hn5)
          have HK5 := Lib.hid (HK4.out.step (Nat.le_refl _) hb5)
          clear hr5 hb5 HK2 HK3 HRS
          go_upto_region 6 with (first
            | (go_at_call 15; (with_reducible refine (HFR0.out _ _ (.inr trivial) HR5.out.sl HC5.out).mono ?_); rintro e w6 ⟨xv, rfl, hx, hb6⟩; obtain ⟨x1, x2, x3, x4, x5, x6, rfl⟩ := hx.form; have HX := Lib.hid hx; have HK6 := Lib.hid (HK5.out.step (Nat.le_refl _) hb6); clear hx hb6)
            | (at_builtin; refine Lib.wpList_append_run _ rfl _ _ _ _ rfl _ _ rfl rfl _ _ hrun5 ?_))
          rw [PL] at HX
          have HPL := Lib.hid PL
          have HK7 := Lib.hid (HK6.out.more (Nat.le_refl _) #[.bool lf, .slice x1 x2 x3, .slice x4 x5 x6] 46)
          have HX7 := Lib.hid (HX.out.below (oneB w6 (.cells #[.bool lf, .slice x1 x2 x3, .slice x4 x5 x6] 46)))
          clear HX HK6 HK5 HR5 HC5 PL hrun5 HFR0
          generalize (w6.alloc (.cells #[.bool lf, .slice x1 x2 x3, .slice x4 x5 x6] 46)) = W7 at HK7 HX7 ⊢
          generalize w6.heap.size = p at HK7 ⊢
          have HTO := Lib.hid (fun W v (hv : NdV W v N) => to_any v N W hv (by have := PA.out.2; omega))
          go_upto_region 7 with (first
            | (go_at_call 16; (with_reducible refine (HTO.out _ _ HX8.out).mono ?_); rintro e w9 ⟨yv, rfl, hy, hb9⟩; obtain ⟨y1, y2, y3, hyv⟩ := hy.form; rw [show (Sl.toR N).leaf = lf from HPL.out] at hyv; subst hyv; have HY := Lib.hid hy; have HX9 := Lib.hid ((HX7.out.below HB8.out).below hb9); have HK9 := Lib.hid (HK8.out.step (Nat.le_refl _) hb9); clear hy hb9)
            | (go_at_call 15; (with_reducible refine (HFR1.out _ HK7.out.below).mono ?_); rintro e w8 ⟨xv, rfl, hx, hb8⟩; obtain ⟨z1, z2, z3, z4, z5, z6, rfl⟩ := hx.form; have HX8 := Lib.hid hx; have HB8 := Lib.hid hb8; have HK8 := Lib.hid (HK7.out.step (Nat.le_refl _) hb8); clear hx hb8))
          have HK10 := Lib.hid (HK9.out.more (Nat.le_refl _) #[.bool lf, .slice y1 y2 y3] 49)
          have HX10 := Lib.hid (HX9.out.below (oneB w9 (.cells #[.bool lf, .slice y1 y2 y3] 49)))
          have HY10 := Lib.hid (HY.out.below (oneB w9 (.cells #[.bool lf, .slice y1 y2 y3] 49)))
          clear HX7 HX8 HX9 HB8 HY HK7 HK8 HK9 HFR1 HTO
          generalize (w9.alloc (.cells #[.bool lf, .slice y1 y2 y3] 49)) = W10 at HK10 HX10 HY10 ⊢
          generalize w9.heap.size = q at HK10 ⊢
          obtain ⟨⟨c0, c1, c2, c3⟩, _⟩ := HK10.out.left.left.four
          go_upto_region 8 with fail
          have HK11 := Lib.hid (HK10.out.more (Nat.le_refl _) #[.string (str x.key), .int .u32 x.chain] 52)
          have HX11 := Lib.hid (HX10.out.below (oneB W10 (.cells #[.string (str x.key), .int .u32 x.chain] 52)))
          have HY11 := Lib.hid (HY10.out.below (oneB W10 (.cells #[.string (str x.key), .int .u32 x.chain] 52)))
          clear HK10 HX10 HY10 c0 c1 c2 c3
          generalize (W10.alloc (.cells #[.string (str x.key), .int .u32 x.chain] 52)) = W11 at HK11 HX11 HY11 ⊢
          generalize W10.heap.size = kb at HK11 ⊢
          cases lf with
          | false => exact absurd HLF.out (by simp)
          | true =>
            obtain rfl : N = ⟨true, l, []⟩ := HNL.out rfl
            have HCT := Lib.hid (cut20_any _ _ key W11 HX11.out rfl (by have := HL4.out; show l.length ≤ _; omega) HUP.out)
            change Hid (Calls _ _ _ _ (CutNz l key _)) at HCT
            obtain ⟨⟨c0, c1, c2⟩, _⟩ := HK11.out.left.left.right.three
            go_upto_region 10 with (go_at_call 17; (refine HCT.out.mono ?_); rintro e w12 ⟨vc, x', he, hxx, hx0, hv, hq, hb12⟩; obtain ⟨pI, hfd⟩ := found_any l key HUP.out x' hxx hx0; have HFD := Lib.hid hfd; subst he; obtain ⟨m1, m2, rfl⟩ := hv.form3; have HM12 := Lib.hid hv; have HMC := Lib.hid hq; unfold ndV aggC; have HK12 := Lib.hid (HK11.out.step (Nat.le_refl _) hb12); have HX12 := Lib.hid (HX11.out.below hb12); have HY12 := Lib.hid (HY11.out.below hb12); clear hv hq hb12 hxx hx0 hfd)
            have HFH : Hid (Sl.hs l key l.length = (x', pI)) := HFD.out.hs
            have HFP : Hid (decide (0 ≤ pI) = Sl.there Sl.shC l key) := HFD.out.hp
            have HFR : Hid (Sl.toR ⟨true, Sl.cutL Sl.shC l key, []⟩ = Sl.woR (Sl.toR ⟨true, l, []⟩) pI) := HFD.out.hr
            have HCL : Hid ((Sl.cutL Sl.shC l key).length ≤ 400) := by
              have h1 : (Sl.cutL Sl.shC l key).length ≤ l.length := by
                unfold Sl.cutL
                split
                · simp only [List.length_append, List.length_take, List.length_drop]; omega
                · exact Nat.le_refl _
              have h2 := HL4.out
              show _ ≤ _
              omega
            clear HFD HCT HK11 HX11 HY11 c0 c1 c2
            generalize Sl.there Sl.shC l key = th at *
            generalize Sl.cutL Sl.shC l key = M at *
            have HK13 := Lib.hid (twoM HK12.out #[.bool true, .slice m1 M.length m2, .slice none 0 0] 46 #[.string (str x'.key), .string (str x'.val), .int .u32 x'.chain, .int .u32 x'.long] 42)
            have hB13 := twoB2 w12 (.cells #[.bool true, .slice m1 M.length m2, .slice none 0 0] 46) (.cells #[.string (str x'.key), .string (str x'.val), .int .u32 x'.chain, .int .u32 x'.long] 42)
            have HM13 : Hid (NdV ((w12.alloc (.cells #[.bool true, .slice m1 M.length m2, .slice none 0 0] 46)).alloc (.cells #[.string (str x'.key), .string (str x'.val), .int .u32 x'.chain, .int .u32 x'.long] 42)) (.agg #[.bool true, .slice m1 M.length m2, .slice none 0 0]) ⟨true, M, []⟩) := ⟨_, _, rfl, HM12.out.below hB13, HMC.out, SlK.nil _, cap_nil⟩
            have HX13 := Lib.hid (HX12.out.below hB13)
            have HY13 := Lib.hid (HY12.out.below hB13)
            clear HK12 HX12 HY12 HM12 hB13
            generalize ((w12.alloc (.cells #[.bool true, .slice m1 M.length m2, .slice none 0 0] 46)).alloc (.cells #[.string (str x'.key), .string (str x'.val), .int .u32 x'.chain, .int .u32 x'.long] 42)) = W13 at HK13 HM13 HX13 HY13 ⊢
            generalize w12.heap.size = mb at HK13 ⊢
            go_upto_region 11 with fail
            have HK14 := Lib.hid (HK13.out.more (Nat.le_refl _) #[.string ⟨#[]⟩, .string ⟨#[]⟩, .int .u32 0, .int .u32 0] 42)
            have HW14 := Lib.hid HK14.out.below.size
            have HB14 := Lib.hid (oneB W13 (.cells #[.string ⟨#[]⟩, .string ⟨#[]⟩, .int .u32 0, .int .u32 0] 42))
            have HWBE : Hid (∀ W, Below W13.heap.size W13 W → Below W13.heap.size W13 W) := fun W h => h
            have HLT := Lib.hid HK13.out.lts
            have HWB := Lib.hid HK13.out.below.size
            clear HK13
            obtain ⟨LL, hLL⟩ : ∃ LL, LL = row1 w.heap.size #[.string (str x.key), .string (str x.val), .int .u32 x.chain, .int .u32 x.long] ++ row1 p #[.bool true, .slice x1 x2 x3, .slice x4 x5 x6] ++ row1 q #[.bool true, .slice y1 y2 y3] ++ row1 kb #[.string (str x.key), .int .u32 x.chain] ++ row1 mb #[.bool true, .slice m1 M.length m2, .slice none 0 0] ++ row1 (mb + 1) #[.string (str x'.key), .string (str x'.val), .int .u32 x'.chain, .int .u32 x'.long] := ⟨_, rfl⟩
            rw [← hLL] at HK14 HLT
            have HLL := Lib.hid hLL
            clear hLL
            generalize (W13.alloc (.cells #[.string ⟨#[]⟩, .string ⟨#[]⟩, .int .u32 0, .int .u32 0] 42)) = W14 at HK14 HB14 HW14 ⊢
            have HXB := Lib.hid (fun W (h : Below W13.heap.size W13 W) => HX13.out.below h)
            have HYB := Lib.hid (fun W (h : Below W13.heap.size W13 W) => HY13.out.below h)
            have HMB := Lib.hid (fun W (h : Below W13.heap.size W13 W) => HM13.out.below h)
            clear HX13 HY13 HM13 HWBE
            generalize W13.heap.size = wb at HK14 HB14 HXB HYB HMB HLT HWB ⊢
            go_wp2
            go_loopg [18, 70] l.length (fun n h i wr => ∃ (j : Nat) (y0 : Cl) (h0 : Int), j ≤ l.length ∧ n = l.length - j ∧ h = .int .i64 h0 ∧ i = .int .i64 (j : Nat) ∧ Hid (Sl.hs l key j = (y0, h0)) ∧ Hid (Kp w.heap.size w (LL ++ row1 wb #[.string (str y0.key), .string (str y0.val), .int .u32 y0.chain, .int .u32 y0.long]) wr) ∧ Hid (Below wb W13 wr))
            case atStart => exact ⟨0, ⟨[], [], 0, 0⟩, -1, Nat.zero_le _, rfl, rfl, rfl, Lib.hid rfl, HK14, HB14⟩
            case round =>
              obtain ⟨j, y0, h0, hk', rfl, rfl, rfl, HS0, HK, HBB⟩ := hrel
              by_cases hlt : j < l.length
              · obtain ⟨y, hy⟩ := take_some l j hlt
                obtain ⟨a, b, o, c, hav, ha, hxs⟩ := HUB.out _ HK.out.below
                simp only [Value.slice.injEq] at hav
                obtain ⟨rfl, _, rfl⟩ := hav
                obtain ⟨d0, d1, d2, d3⟩ := hxs j y hy
                obtain rfl : uc = some ⟨b, o, none⟩ := by
                  rcases ha with h | h
                  · rw [h] at hlt; cases hlt
                  · exact h
                have hji : (j : Int) < l.length := by omega
                have hl4' := HL4.out
                have HK2 := Lib.hid (HK.out.step (Nat.le_refl _) (oneB wr (.cells #[.string (str y.key), .string (str y.val), .int .u32 y.chain, .int .u32 y.long] 42)))
                have hq0 := fun T => (HK.out.step (Nat.le_refl _) (oneB wr (.cells T 42))).right.four.1.1
                have hq1 := fun T => (HK.out.step (Nat.le_refl _) (oneB wr (.cells T 42))).right.four.1.2.1
                have hq2 := fun T => (HK.out.step (Nat.le_refl _) (oneB wr (.cells T 42))).right.four.1.2.2.1
                have hq3 := fun T => (HK.out.step (Nat.le_refl _) (oneB wr (.cells T 42))).right.four.1.2.2.2
                have hf0 := fun T => (HK.out.step (Nat.le_refl _) (oneB wr (.cells T 42))).right.four.2.1
                have hf1 := fun T => (HK.out.step (Nat.le_refl _) (oneB wr (.cells T 42))).right.four.2.2.1
                have hf2 := fun T => (HK.out.step (Nat.le_refl _) (oneB wr (.cells T 42))).right.four.2.2.2.1
                have hf3 := fun T => (HK.out.step (Nat.le_refl _) (oneB wr (.cells T 42))).right.four.2.2.2.2
                have HWLT : Hid (wb < wr.heap.size) := World.block_lt_of_cell? _ _ HK.out.right.four.1.1
                have HB2 := Lib.hid (HBB.out.alloc (show wb ≤ wr.heap.size by have := HWLT.out; omega) (.cells #[.string (str y.key), .string (str y.val), .int .u32 y.chain, .int .u32 y.long] 42))
                by_cases he : y.key = key
                · have hb2 := str_beq he
                  have HS := Lib.hid (Sl.hs_yes l key j y hy he)
                  have HK3 := Lib.hid (HK2.out.put4 HLT.out HWB.out (.string (str y.key)) (.string (str y.val)) (.int .u32 y.chain) (.int .u32 y.long))
                  have HB3 := Lib.hid ((((HB2.out.setCell (p := ⟨wb, 0, none⟩) (Nat.le_refl _) (.string (str y.key))).setCell (p := ⟨wb, 1, none⟩) (Nat.le_refl _) (.string (str y.val))).setCell (p := ⟨wb, 2, none⟩) (Nat.le_refl _) (.int .u32 y.chain)).setCell (p := ⟨wb, 3, none⟩) (Nat.le_refl _) (.int .u32 y.long))
                  have hne : ¬ wr.heap.size = wb := by have := HWLT.out; omega
                  have hne2 : ¬ wb = wr.heap.size := by have := HWLT.out; omega
                  clear hy ha hxs he
                  go_wp2
                  go_roundg (l.length - (j + 1))
                  case measure => omega
                  case rel => exact ⟨j + 1, y, j, by omega, rfl, rfl, by go_num, HS, HK3, HB3⟩
                · have hb2 := str_bne he
                  have HS := Lib.hid ((Sl.hs_no l key j y hy he).trans HS0.out)
                  clear hy ha hxs he hq0 hq1 hq2 hq3 hf0 hf1 hf2 hf3
                  go_wp2
                  go_roundg (l.length - (j + 1))
                  case measure => omega
                  case rel => exact ⟨j + 1, y0, h0, by omega, rfl, rfl, by go_num, HS, HK2, HB2⟩
              · obtain rfl : j = l.length := by omega
                have hh := HS0.out.symm.trans HFH.out
                injection hh with hh1 hh2
                subst hh1 hh2
                rw [HLL.out] at HK
                have HXe := Lib.hid (HXB.out _ HBB.out)
                have HYe := Lib.hid (HYB.out _ HBB.out)
                have HMe := Lib.hid (HMB.out _ HBB.out)
                clear HXB HYB HMB HBB HLL HLT HWB HB14 HK14 HW14 HS0 HFH
                obtain ⟨⟨m0, m1', m2', m3'⟩, _⟩ := HK.out.right.four
                obtain ⟨⟨n0, n1, n2, n3⟩, _⟩ := HK.out.left.right.four
                obtain ⟨⟨o0, o1, o2⟩, _⟩ := HK.out.left.left.right.three
                obtain ⟨⟨q0, q1⟩, _⟩ := HK.out.left.left.left.left.right.two
                have hF : Hid (wr.drew.cell? ⟨mb, 0, none⟩ = some (.bool true) ∧ wr.drew.cell? ⟨mb, 1, none⟩ = some (.slice m1 M.length m2) ∧ wr.drew.cell? ⟨mb, 2, none⟩ = some (.slice none 0 0) ∧ wr.drew.cell? ⟨mb + 1, 0, none⟩ = some (.string (str y0.key)) ∧ wr.drew.cell? ⟨mb + 1, 1, none⟩ = some (.string (str y0.val)) ∧ wr.drew.cell? ⟨mb + 1, 2, none⟩ = some (.int .u32 y0.chain) ∧ wr.drew.cell? ⟨mb + 1, 3, none⟩ = some (.int .u32 y0.long) ∧ wr.drew.cell? ⟨wb, 0, none⟩ = some (.string (str y0.key)) ∧ wr.drew.cell? ⟨wb, 1, none⟩ = some (.string (str y0.val)) ∧ wr.drew.cell? ⟨wb, 2, none⟩ = some (.int .u32 y0.chain) ∧ wr.drew.cell? ⟨wb, 3, none⟩ = some (.int .u32 y0.long) ∧ wr.drew.cell? ⟨q, 0, none⟩ = some (.bool true) ∧ wr.drew.cell? ⟨q, 1, none⟩ = some (.slice y1 y2 y3) ∧ Below wr.heap.size wr wr.drew) := ⟨o0, o1, o2, n0, n1, n2, n3, m0, m1', m2', m3', q0, q1, (Below.refl _ _).drew⟩
                clear m0 m1' m2' m3' n0 n1 n2 n3 o0 o1 o2 q0 q1
                have HWO := Lib.hid (fun W (hW : Below wr.heap.size wr W) => rwithout_any _ (Sl.toR ⟨true, l, []⟩) h0 W (HYe.out.below hW) (by have := HL4.out; show l.length ≤ _; omega))
                rw [← HFR.out] at HWO
                have HS1 := Lib.hid (fun W v (hv : RnV W v (Sl.toR ⟨true, M, []⟩)) (hW : Below wr.heap.size wr W) => lsame_any _ v ⟨true, M, []⟩ W (HMe.out.below hW) hv (by have := HCL.out; show M.length ≤ _; omega) (Nat.zero_le _))
                have hp := HFP.out
                clear HFR HFP
                by_cases hp0 : 0 ≤ h0
                · rw [decide_eq_true hp0] at hp
                  subst hp
                  have hd : decide (0 ≤ h0) = true := decide_eq_true hp0
                  have hd2 : decide (h0 ≥ 0) = true := decide_eq_true hp0
                  go_wp2_with fail
                  go_region_held3 (fun w' => w'.cell? ⟨mb, 0, none⟩ = some (.bool true) ∧ w'.cell? ⟨mb, 1, none⟩ = some (.slice m1 M.length m2) ∧ w'.cell? ⟨mb, 2, none⟩ = some (.slice none 0 0) ∧ w'.cell? ⟨mb + 1, 0, none⟩ = some (.string (str y0.key)) ∧ w'.cell? ⟨mb + 1, 1, none⟩ = some (.string (str y0.val)) ∧ w'.cell? ⟨mb + 1, 2, none⟩ = some (.int .u32 y0.chain) ∧ w'.cell? ⟨mb + 1, 3, none⟩ = some (.int .u32 y0.long) ∧ w'.cell? ⟨wb, 0, none⟩ = some (.string (str y0.key)) ∧ w'.cell? ⟨wb, 1, none⟩ = some (.string (str y0.val)) ∧ w'.cell? ⟨wb, 2, none⟩ = some (.int .u32 y0.chain) ∧ w'.cell? ⟨wb, 3, none⟩ = some (.int .u32 y0.long) ∧ w'.cell? ⟨q, 0, none⟩ = some (.bool true) ∧ w'.cell? ⟨q, 1, none⟩ = some (.slice y1 y2 y3) ∧ Below wr.heap.size wr w')
                    ((first | assumption | exact step13 (Nat.le_refl _) ‹_› hb | exact hF.out))
                    (first
                    | (go_at_call 18; (with_reducible refine (HS1.out _ _ HV17.out (last13 (by assumption))).mono ?_); rintro e w18 ⟨rfl, hb⟩)
                    | (go_at_call 19; (with_reducible refine (HWO.out _ (last13 (by assumption))).mono ?_); rintro e w17 ⟨v17, rfl, hv17, hb⟩; have HV17 := Lib.hid hv17; clear hv17))
                  rename_i hS
                  have HB18 := Lib.hid (last13 hS)
                  clear hS hF HWO HS1
                  have HK18 := Lib.hid (HK.out.step (Nat.le_refl _) HB18.out)
                  have HX18 := Lib.hid (HXe.out.below HB18.out)
                  have HY18 := Lib.hid (HYe.out.below HB18.out)
                  clear HK HXe HYe HMe
                  obtain ⟨⟨c0, c1, c2, c3⟩, _⟩ := HK18.out.left.left.left.left.left.left.four
                  obtain ⟨⟨p0, p1, p2⟩, _⟩ := HK18.out.left.left.left.left.left.right.three
                  obtain ⟨⟨q0, q1⟩, _⟩ := HK18.out.left.left.left.left.right.two
                  obtain ⟨⟨k0, k1⟩, _⟩ := HK18.out.left.left.left.right.two
                  have hF : Hid (w18.drew.cell? ⟨p, 0, none⟩ = some (.bool true) ∧ w18.drew.cell? ⟨p, 1, none⟩ = some (.slice x1 x2 x3) ∧ w18.drew.cell? ⟨p, 2, none⟩ = some (.slice x4 x5 x6) ∧ w18.drew.cell? ⟨w.heap.size, 0, none⟩ = some (.string (str x.key)) ∧ w18.drew.cell? ⟨w.heap.size, 1, none⟩ = some (.string (str x.val)) ∧ w18.drew.cell? ⟨w.heap.size, 2, none⟩ = some (.int .u32 x.chain) ∧ w18.drew.cell? ⟨w.heap.size, 3, none⟩ = some (.int .u32 x.long) ∧ w18.drew.cell? ⟨q, 0, none⟩ = some (.bool true) ∧ w18.drew.cell? ⟨q, 1, none⟩ = some (.slice y1 y2 y3) ∧ w18.drew.cell? ⟨kb, 0, none⟩ = some (.string (str x.key)) ∧ w18.drew.cell? ⟨kb, 1, none⟩ = some (.int .u32 x.chain) ∧ Below w18.heap.size w18 w18.drew) := ⟨p0, p1, p2, c0, c1, c2, c3, q0, q1, k0, k1, (Below.refl _ _).drew⟩
                  clear c0 c1 c2 c3 p0 p1 p2 q0 q1 k0 k1
                  have hl4' := HL4.out
                  have HPU := Lib.hid (fun W (hW : Below w18.heap.size w18 W) => putC_any _ ⟨true, l, []⟩ x W (HX18.out.below hW) rfl (show l.length ≤ 90000 by omega) HUP.out)
                  have HPD := Lib.hid (fun W (hW : Below w18.heap.size w18 W) => rplaced_any _ (Sl.toR ⟨true, l, []⟩) x W (HY18.out.below hW) (show l.length ≤ 50000 by omega))
                  rw [← Sl.toR_put] at HPD
                  unfold aggC at HPU HPD
                  have HTU := Lib.hid (fun W (hW : Below w18.heap.size w18 W) => turnC_no _ ⟨true, l, []⟩ 0 9 W (HX18.out.below hW) rfl (show l.length ≤ 100000 by omega) rfl)
                  have HIN := Lib.hid (fun W (hW : Below w18.heap.size w18 W) => insert_leaf _ ⟨true, l, []⟩ ⟨x.key, x.chain⟩ W (HX18.out.below hW) rfl (show l.length ≤ 100000 by omega))
                  unfold aggK at HIN
                  have HRE := Lib.hid (fun W (hW : Below w18.heap.size w18 W) => remC_no _ ⟨true, l, []⟩ 0 W (HX18.out.below hW) rfl (show l.length ≤ 100000 by omega) rfl)
                  have HRO := Lib.hid (fun W (hW : Below w18.heap.size w18 W) => route_leaf _ ⟨true, l, []⟩ key W (HX18.out.below hW) rfl)
                  have HSQ := Lib.hid (fun W v (hv : NdV W v ⟨true, l, []⟩) (hW : Below w18.heap.size w18 W) => lsame_any v _ ⟨true, l, []⟩ W hv (HY18.out.below hW) (show l.length ≤ 100000 by omega) (Nat.zero_le _))
                  have hpl := Sl.putL_len Sl.shC l x
                  have HSP := Lib.hid (fun W a b (ha : NdV W a ⟨true, Sl.putL Sl.shC l x, []⟩) (hb : RnV W b (Sl.toR ⟨true, Sl.putL Sl.shC l x, []⟩)) => lsame_any a b ⟨true, Sl.putL Sl.shC l x, []⟩ W ha hb (show (Sl.putL Sl.shC l x).length ≤ 100000 by omega) (Nat.zero_le _))
                  clear hpl hl4' HY18
                  generalize Sl.putL Sl.shC l x = P at *
                  go_wp2_with fail
                  go_region_held3 (fun w' => w'.cell? ⟨p, 0, none⟩ = some (.bool true) ∧ w'.cell? ⟨p, 1, none⟩ = some (.slice x1 x2 x3) ∧ w'.cell? ⟨p, 2, none⟩ = some (.slice x4 x5 x6) ∧ w'.cell? ⟨w.heap.size, 0, none⟩ = some (.string (str x.key)) ∧ w'.cell? ⟨w.heap.size, 1, none⟩ = some (.string (str x.val)) ∧ w'.cell? ⟨w.heap.size, 2, none⟩ = some (.int .u32 x.chain) ∧ w'.cell? ⟨w.heap.size, 3, none⟩ = some (.int .u32 x.long) ∧ w'.cell? ⟨q, 0, none⟩ = some (.bool true) ∧ w'.cell? ⟨q, 1, none⟩ = some (.slice y1 y2 y3) ∧ w'.cell? ⟨kb, 0, none⟩ = some (.string (str x.key)) ∧ w'.cell? ⟨kb, 1, none⟩ = some (.int .u32 x.chain) ∧ Below w18.heap.size w18 w')
                    ((first | assumption | exact step11 (Nat.le_refl _) ‹_› hb | exact hF.out))
                    (first
                    | (go_at_call 18; (with_reducible refine (HSQ.out _ _ (HX18.out.below (last11 (by assumption))) (last11 (by assumption))).mono ?_); rintro e w29 ⟨rfl, hb⟩)
                    | (go_at_call 25; (with_reducible refine (HRO.out _ (last11 (by assumption))).mono ?_); rintro e w28 ⟨rfl, hb⟩)
                    | (go_at_call 18; (with_reducible refine (HSQ.out _ _ HN26.out (last11 (by assumption))).mono ?_); rintro e w27 ⟨rfl, hb⟩)
                    | (go_at_call 24; (with_reducible refine (HRE.out _ (last11 (by assumption))).mono ?_); rintro e w26 ⟨v26, rfl, hv26, hb⟩; have HN26 := Lib.hid hv26; clear hv26)
                    | (go_at_call 18; (with_reducible refine (HSQ.out _ _ HN24.out (last11 (by assumption))).mono ?_); rintro e w25 ⟨rfl, hb⟩)
                    | (go_at_call 23; (with_reducible refine (HIN.out _ (last11 (by assumption))).mono ?_); rintro e w24 ⟨v24, rfl, hv24, hb⟩; have HN24 := Lib.hid hv24; clear hv24)
                    | (go_at_call 18; (with_reducible refine (HSQ.out _ _ HN22.out (last11 (by assumption))).mono ?_); rintro e w23 ⟨rfl, hb⟩)
                    | (go_at_call 22; (with_reducible refine (HTU.out _ (last11 (by assumption))).mono ?_); rintro e w22 ⟨v22, rfl, hv22, hb⟩; have HN22 := Lib.hid hv22; clear hv22)
                    | (go_at_call 18; (with_reducible refine (HSP.out _ _ _ HN20.out HV20.out).mono ?_); rintro e w21 ⟨rfl, hb⟩)
                    | (go_at_call 21; (with_reducible refine (HPD.out _ (last11 (by assumption))).mono ?_); rintro e w20 ⟨v20, rfl, hv20, hb⟩; have HV20 := Lib.hid hv20; have HN20 := Lib.hid (HN19.out.below hb); clear hv20)
                    | (go_at_call 20; (with_reducible refine (HPU.out _ (last11 (by assumption))).mono ?_); rintro e w19 ⟨v19, rfl, hv19, hb⟩; have HN19 := Lib.hid hv19; clear hv19))
                  rename_i hS
                  have HB30 := Lib.hid (last11 hS)
                  have HW18 := Lib.hid HK18.out.below
                  clear hS hF
                  go_wp2
                  go_ret
                  exact ⟨rfl, HW18.out.trans (HB30.out.mono HW18.out.size)⟩
                · rw [decide_eq_false hp0] at hp
                  subst hp
                  have hd : decide (0 ≤ h0) = false := decide_eq_false hp0
                  have hd2 : decide (h0 ≥ 0) = false := decide_eq_false hp0
                  go_wp2_with fail
                  go_region_held3 (fun w' => w'.cell? ⟨mb, 0, none⟩ = some (.bool true) ∧ w'.cell? ⟨mb, 1, none⟩ = some (.slice m1 M.length m2) ∧ w'.cell? ⟨mb, 2, none⟩ = some (.slice none 0 0) ∧ w'.cell? ⟨mb + 1, 0, none⟩ = some (.string (str y0.key)) ∧ w'.cell? ⟨mb + 1, 1, none⟩ = some (.string (str y0.val)) ∧ w'.cell? ⟨mb + 1, 2, none⟩ = some (.int .u32 y0.chain) ∧ w'.cell? ⟨mb + 1, 3, none⟩ = some (.int .u32 y0.long) ∧ w'.cell? ⟨wb, 0, none⟩ = some (.string (str y0.key)) ∧ w'.cell? ⟨wb, 1, none⟩ = some (.string (str y0.val)) ∧ w'.cell? ⟨wb, 2, none⟩ = some (.int .u32 y0.chain) ∧ w'.cell? ⟨wb, 3, none⟩ = some (.int .u32 y0.long) ∧ w'.cell? ⟨q, 0, none⟩ = some (.bool true) ∧ w'.cell? ⟨q, 1, none⟩ = some (.slice y1 y2 y3) ∧ Below wr.heap.size wr w')
                    ((first | assumption | exact step13 (Nat.le_refl _) ‹_› hb | exact hF.out))
                    (first
                    | (go_at_call 18; (with_reducible refine (HS1.out _ _ HV17.out (last13 (by assumption))).mono ?_); rintro e w18 ⟨rfl, hb⟩)
                    | (go_at_call 19; (with_reducible refine (HWO.out _ (last13 (by assumption))).mono ?_); rintro e w17 ⟨v17, rfl, hv17, hb⟩; have HV17 := Lib.hid hv17; clear hv17))
                  rename_i hS
                  have HB18 := Lib.hid (last13 hS)
                  clear hS hF HWO HS1
                  have HK18 := Lib.hid (HK.out.step (Nat.le_refl _) HB18.out)
                  have HX18 := Lib.hid (HXe.out.below HB18.out)
                  have HY18 := Lib.hid (HYe.out.below HB18.out)
                  clear HK HXe HYe HMe
                  obtain ⟨⟨c0, c1, c2, c3⟩, _⟩ := HK18.out.left.left.left.left.left.left.four
                  obtain ⟨⟨p0, p1, p2⟩, _⟩ := HK18.out.left.left.left.left.left.right.three
                  obtain ⟨⟨q0, q1⟩, _⟩ := HK18.out.left.left.left.left.right.two
                  obtain ⟨⟨k0, k1⟩, _⟩ := HK18.out.left.left.left.right.two
                  have hF : Hid (w18.drew.cell? ⟨p, 0, none⟩ = some (.bool true) ∧ w18.drew.cell? ⟨p, 1, none⟩ = some (.slice x1 x2 x3) ∧ w18.drew.cell? ⟨p, 2, none⟩ = some (.slice x4 x5 x6) ∧ w18.drew.cell? ⟨w.heap.size, 0, none⟩ = some (.string (str x.key)) ∧ w18.drew.cell? ⟨w.heap.size, 1, none⟩ = some (.string (str x.val)) ∧ w18.drew.cell? ⟨w.heap.size, 2, none⟩ = some (.int .u32 x.chain) ∧ w18.drew.cell? ⟨w.heap.size, 3, none⟩ = some (.int .u32 x.long) ∧ w18.drew.cell? ⟨q, 0, none⟩ = some (.bool true) ∧ w18.drew.cell? ⟨q, 1, none⟩ = some (.slice y1 y2 y3) ∧ w18.drew.cell? ⟨kb, 0, none⟩ = some (.string (str x.key)) ∧ w18.drew.cell? ⟨kb, 1, none⟩ = some (.int .u32 x.chain) ∧ Below w18.heap.size w18 w18.drew) := ⟨p0, p1, p2, c0, c1, c2, c3, q0, q1, k0, k1, (Below.refl _ _).drew⟩
                  clear c0 c1 c2 c3 p0 p1 p2 q0 q1 k0 k1
                  have hl4' := HL4.out
                  have HPU := Lib.hid (fun W (hW : Below w18.heap.size w18 W) => putC_any _ ⟨true, l, []⟩ x W (HX18.out.below hW) rfl (show l.length ≤ 90000 by omega) HUP.out)
                  have HPD := Lib.hid (fun W (hW : Below w18.heap.size w18 W) => rplaced_any _ (Sl.toR ⟨true, l, []⟩) x W (HY18.out.below hW) (show l.length ≤ 50000 by omega))
                  rw [← Sl.toR_put] at HPD
                  unfold aggC at HPU HPD
                  have HTU := Lib.hid (fun W (hW : Below w18.heap.size w18 W) => turnC_no _ ⟨true, l, []⟩ 0 9 W (HX18.out.below hW) rfl (show l.length ≤ 100000 by omega) rfl)
                  have HIN := Lib.hid (fun W (hW : Below w18.heap.size w18 W) => insert_leaf _ ⟨true, l, []⟩ ⟨x.key, x.chain⟩ W (HX18.out.below hW) rfl (show l.length ≤ 100000 by omega))
                  unfold aggK at HIN
                  have HRE := Lib.hid (fun W (hW : Below w18.heap.size w18 W) => remC_no _ ⟨true, l, []⟩ 0 W (HX18.out.below hW) rfl (show l.length ≤ 100000 by omega) rfl)
                  have HRO := Lib.hid (fun W (hW : Below w18.heap.size w18 W) => route_leaf _ ⟨true, l, []⟩ key W (HX18.out.below hW) rfl)
                  have HSQ := Lib.hid (fun W v (hv : NdV W v ⟨true, l, []⟩) (hW : Below w18.heap.size w18 W) => lsame_any v _ ⟨true, l, []⟩ W hv (HY18.out.below hW) (show l.length ≤ 100000 by omega) (Nat.zero_le _))
                  have hpl := Sl.putL_len Sl.shC l x
                  have HSP := Lib.hid (fun W a b (ha : NdV W a ⟨true, Sl.putL Sl.shC l x, []⟩) (hb : RnV W b (Sl.toR ⟨true, Sl.putL Sl.shC l x, []⟩)) => lsame_any a b ⟨true, Sl.putL Sl.shC l x, []⟩ W ha hb (show (Sl.putL Sl.shC l x).length ≤ 100000 by omega) (Nat.zero_le _))
                  clear hpl hl4' HY18
                  generalize Sl.putL Sl.shC l x = P at *
                  go_wp2_with fail
                  go_region_held3 (fun w' => w'.cell? ⟨p, 0, none⟩ = some (.bool true) ∧ w'.cell? ⟨p, 1, none⟩ = some (.slice x1 x2 x3) ∧ w'.cell? ⟨p, 2, none⟩ = some (.slice x4 x5 x6) ∧ w'.cell? ⟨w.heap.size, 0, none⟩ = some (.string (str x.key)) ∧ w'.cell? ⟨w.heap.size, 1, none⟩ = some (.string (str x.val)) ∧ w'.cell? ⟨w.heap.size, 2, none⟩ = some (.int .u32 x.chain) ∧ w'.cell? ⟨w.heap.size, 3, none⟩ = some (.int .u32 x.long) ∧ w'.cell? ⟨q, 0, none⟩ = some (.bool true) ∧ w'.cell? ⟨q, 1, none⟩ = some (.slice y1 y2 y3) ∧ w'.cell? ⟨kb, 0, none⟩ = some (.string (str x.key)) ∧ w'.cell? ⟨kb, 1, none⟩ = some (.int .u32 x.chain) ∧ Below w18.heap.size w18 w')
                    ((first | assumption | exact step11 (Nat.le_refl _) ‹_› hb | exact hF.out))
                    (first
                    | (go_at_call 18; (with_reducible refine (HSQ.out _ _ (HX18.out.below (last11 (by assumption))) (last11 (by assumption))).mono ?_); rintro e w29 ⟨rfl, hb⟩)
                    | (go_at_call 25; (with_reducible refine (HRO.out _ (last11 (by assumption))).mono ?_); rintro e w28 ⟨rfl, hb⟩)
                    | (go_at_call 18; (with_reducible refine (HSQ.out _ _ HN26.out (last11 (by assumption))).mono ?_); rintro e w27 ⟨rfl, hb⟩)
                    | (go_at_call 24; (with_reducible refine (HRE.out _ (last11 (by assumption))).mono ?_); rintro e w26 ⟨v26, rfl, hv26, hb⟩; have HN26 := Lib.hid hv26; clear hv26)
                    | (go_at_call 18; (with_reducible refine (HSQ.out _ _ HN24.out (last11 (by assumption))).mono ?_); rintro e w25 ⟨rfl, hb⟩)
                    | (go_at_call 23; (with_reducible refine (HIN.out _ (last11 (by assumption))).mono ?_); rintro e w24 ⟨v24, rfl, hv24, hb⟩; have HN24 := Lib.hid hv24; clear hv24)
                    | (go_at_call 18; (with_reducible refine (HSQ.out _ _ HN22.out (last11 (by assumption))).mono ?_); rintro e w23 ⟨rfl, hb⟩)
                    | (go_at_call 22; (with_reducible refine (HTU.out _ (last11 (by assumption))).mono ?_); rintro e w22 ⟨v22, rfl, hv22, hb⟩; have HN22 := Lib.hid hv22; clear hv22)
                    | (go_at_call 18; (with_reducible refine (HSP.out _ _ _ HN20.out HV20.out).mono ?_); rintro e w21 ⟨rfl, hb⟩)
                    | (go_at_call 21; (with_reducible refine (HPD.out _ (last11 (by assumption))).mono ?_); rintro e w20 ⟨v20, rfl, hv20, hb⟩; have HV20 := Lib.hid hv20; have HN20 := Lib.hid (HN19.out.below hb); clear hv20)
                    | (go_at_call 20; (with_reducible refine (HPU.out _ (last11 (by assumption))).mono ?_); rintro e w19 ⟨v19, rfl, hv19, hb⟩; have HN19 := Lib.hid hv19; clear hv19))
                  rename_i hS
                  have HB30 := Lib.hid (last11 hS)
                  have HW18 := Lib.hid HK18.out.below
                  clear hS hF
                  go_wp2
                  go_ret
                  exact ⟨rfl, HW18.out.trans (HB30.out.mono HW18.out.size)⟩
    · have HK3 := Lib.hid ((HK2.out.step (Nat.le_refl _) (oneB w2 _)).step (Nat.le_refl _) hb3)
      go_wp2
      go_ret
      exact ⟨rfl, HK3.out.below⟩
  · have HK2 := Lib.hid (HK1.out.step (Nat.le_refl _) hb2)
    go_wp2
    go_ret
    exact ⟨rfl, HK2.out.below⟩
end Go.Proofs.Ytpkoehnjladpoaa
