/- Texts of one seat, merged. -/
import Derived.Test.YtemfbkelenaaeaaGreatB10
import Derived.Test.YtemfbkelenaaeaaGreatB12
import Derived.Test.YtemfbkelenaaeaaGreatB19
import Derived.Test.YtemfbkelenaaeaaGreatB21
import Derived.Test.YtemfbkelenaaeaaGreatB22
import Derived.Deep.DeepCutAuto
import Derived.Deep.RegionHeld3
import Derived.Test.YtemfbkelenaaeaaGreatB04
import Derived.ProofKit
import Derived.OpenShut
import Derived.ShutString
import Derived.ChangeOld
import Derived.Carry
import Derived.Deep.Slices
set_option maxRecDepth 100000
set_option maxHeartbeats 4000000
set_option linter.unusedVariables false
/- The walk of the law NodeBack. -/
namespace Go.Proofs.YtemfbkelenaaeaaGreat
open Go.RowKit
open Sl (Cl Kd Nd Rn)
theorem step7b {w w1 w2 : World} {B : Nat} {p0 p1 p2 p3 p4 p5 p6 : Addr} {x0 x1 x2 x3 x4 x5 x6 : Value} (hB : B ≤ w.heap.size) (H : w1.cell? p0 = some x0 ∧ w1.cell? p1 = some x1 ∧ w1.cell? p2 = some x2 ∧ w1.cell? p3 = some x3 ∧ w1.cell? p4 = some x4 ∧ w1.cell? p5 = some x5 ∧ w1.cell? p6 = some x6 ∧ Below B w w1) (hb : Below w1.heap.size w1 w2) : w2.cell? p0 = some x0 ∧ w2.cell? p1 = some x1 ∧ w2.cell? p2 = some x2 ∧ w2.cell? p3 = some x3 ∧ w2.cell? p4 = some x4 ∧ w2.cell? p5 = some x5 ∧ w2.cell? p6 = some x6 ∧ Below B w w2 := by
  obtain ⟨h0, h1, h2, h3, h4, h5, h6, hq⟩ := H
  exact ⟨(hb.cell (p := p0) (World.block_lt_of_cell? _ _ h0)).trans h0, (hb.cell (p := p1) (World.block_lt_of_cell? _ _ h1)).trans h1, (hb.cell (p := p2) (World.block_lt_of_cell? _ _ h2)).trans h2, (hb.cell (p := p3) (World.block_lt_of_cell? _ _ h3)).trans h3, (hb.cell (p := p4) (World.block_lt_of_cell? _ _ h4)).trans h4, (hb.cell (p := p5) (World.block_lt_of_cell? _ _ h5)).trans h5, (hb.cell (p := p6) (World.block_lt_of_cell? _ _ h6)).trans h6, hq.trans (hb.mono (Nat.le_trans hB hq.size))⟩
theorem last7b {w w1 : World} {B : Nat} {p0 p1 p2 p3 p4 p5 p6 : Addr} {x0 x1 x2 x3 x4 x5 x6 : Value} (H : w1.cell? p0 = some x0 ∧ w1.cell? p1 = some x1 ∧ w1.cell? p2 = some x2 ∧ w1.cell? p3 = some x3 ∧ w1.cell? p4 = some x4 ∧ w1.cell? p5 = some x5 ∧ w1.cell? p6 = some x6 ∧ Below B w w1) : Below B w w1 := H.2.2.2.2.2.2.2
theorem cutL_le (l : List Cl) (k : List UInt8) : (Sl.cutL Sl.shC l k).length ≤ l.length := by
  unfold Sl.cutL
  split
  · simp only [List.length_append, List.length_take, List.length_drop]; omega
  · exact Nat.le_refl _
theorem SlC.form1 {w : World} {v : Value} {l : List Cl} (h : SlC w v l) : ∃ a c, v = .slice a l.length c := by
  obtain ⟨a, b, o, c, hv, _⟩ := h
  exact ⟨a, c, hv⟩
theorem NdV.form2 {w : World} {v : Value} {L : List Cl} (h : NdV w v ⟨true, L, []⟩) : ∃ a1 c1 a2 c2, v = .agg #[.bool true, .slice a1 L.length c1, .slice a2 0 c2] := by
  obtain ⟨vc, vk, rfl, hc, _, hk, _⟩ := h
  obtain ⟨a, c, rfl⟩ := hc.form1
  obtain ⟨a', b', o', c', hv, _⟩ := hk
  exact ⟨a, c, a', c', by rw [hv]; rfl⟩
theorem NdV.slc {w : World} {u v : Value} {L : List Cl} (h : NdV w (.agg #[.bool true, u, v]) ⟨true, L, []⟩) : SlC w u L := by
  obtain ⟨vc, vk, hv, hc, _, _, _⟩ := h
  unfold ndV at hv
  simp at hv
  rw [hv.1]; exact hc
theorem twoB' (w : World) (A B : Obj) : Below w.heap.size w ((w.alloc A).alloc B) := ((Below.refl _ _).alloc (Nat.le_refl _) _).alloc (by simp) _
theorem two_more {w w1 : World} {L : List (Addr × Value)} (h : Kp w.heap.size w L w1) (A : Array Value) (T : TypeId) (B : Array Value) (U : TypeId) : Kp w.heap.size w (L ++ row1 w1.heap.size A ++ row1 (w1.heap.size + 1) B) ((w1.alloc (.cells A T)).alloc (.cells B U)) := by
  have h1 := h.more (Nat.le_refl _) A T
  have h2 := h1.more (Nat.le_refl _) B U
  rwa [show (w1.alloc (.cells A T)).heap.size = w1.heap.size + 1 by simp] at h2
theorem frR_zero (n : Nd) (id tx : Int) (h : Sl.frE n = 0) : ∃ k1 k2 ks, frR n id tx = .agg #[.int .u8 k1, .int .u16 k2, .int .u32 id, .int .u64 tx, .string ks] := by
  unfold frR; rw [if_pos h]; exact ⟨_, _, _, rfl⟩
theorem allocB (w : World) (o : Obj) : Below w.heap.size w (w.alloc o) := (Below.refl _ _).alloc (Nat.le_refl _) _
set_option maxHeartbeats 8000000 in
theorem back_walk (lf : Bool) (u : Value) (l : List Cl) (x : Cl) (id : Int) (hl0 : l.length ≤ maxLen) (hl : ∀ x ∈ l, okC x) (w : World) (hu : SlC w u l) (hcu : Cap u) :
    Calls Tryz.prog 4 #[.bool lf, u, .agg #[.string (str x.key), .string (str x.val), .int .u32 x.chain, .int .u32 x.long], .int .u32 id] w fun e w' => e = .returned (.bool true) ∧ Below w.heap.size w w' := by
  have HUB : Hid (∀ W, Below w.heap.size w W → SlC W u l) := fun W hW => hu.below hW
  have HF1 := Lib.hid (fun W hW => few_any u l hl0 W hW)
  have HF2 := Lib.hid (fun W => few_any _ [x] (by unfold maxLen; simp) _ (slOne W x))
  have HK0 := Lib.hid (Kp.laid (Below.refl _ w) (Nat.le_refl _) #[.string (str x.key), .string (str x.val), .int .u32 x.chain, .int .u32 x.long] 52)
  have HRS := Lib.hid (fun W (hn : l.length ≤ 400) (hW : Below w.heap.size w W) => rising_any u l (by omega) W (hu.below hW))
  go_enter Tryz.func4, Tryz.ntmps4
  go_wp2_with (first
    | (go_at_call 5; refine (nawake_any _).mono ?_; rintro e w1 ⟨rfl, hb1⟩; have HK1 := Lib.hid (HK0.out.step (Nat.le_refl _) hb1); clear hb1)
    | (go_at_call 6; refine (HF1.out _ (HUB.out _ HK1.out.below)).mono ?_))
  rintro e w2 (⟨rfl, hfl, hb2⟩ | ⟨rfl, hb2⟩)
  · have HK2 := Lib.hid (HK1.out.step (Nat.le_refl _) hb2)
    clear hb2
    have hl4 : l.length ≤ 400 := hfl.1
    obtain ⟨⟨c0, c1, c2, c3⟩, _⟩ := HK2.out.four
    go_wp2_with (go_at_call 6; refine (HF2.out _).mono ?_)
    rintro e w3 (⟨rfl, hfx, hb3⟩ | ⟨rfl, hb3⟩)
    · have HK3 := Lib.hid ((HK2.out.step (Nat.le_refl _) (allocB w2 _)).step (Nat.le_refl _) hb3)
      clear hb3 c0 c1 c2 c3 hfx
      cases hrs : Sl.rises Sl.shC l with
      | false =>
        rw [hrs] at HRS
        clear hrs
        go_wp2_with (go_at_call 19; (refine (HRS.out _ hl4 HK3.out.below).mono ?_); rintro e w4 ⟨rfl, hb4⟩)
        go_ret
        exact ⟨rfl, HK3.out.below.trans (hb4.mono HK3.out.below.size)⟩
      | true =>
        have HUP := Lib.hid hrs
        rw [hrs] at HRS
        clear hrs
        have HFR1 := Lib.hid (fun W (hW : Below w.heap.size w W) => from_any lf u l W (HUB.out W hW) hcu (by omega))
        obtain ⟨uc, ul, uC, _, _, _⟩ := hcu
        have hul : ul = l.length := by obtain ⟨_, _, _, _, h, _⟩ := hu; simp at h; exact h.2.1
        subst hul
        have PL : (Sl.fromN lf l).leaf = lf := by cases lf <;> rfl
        have PA := Lib.hid (Sl.lim_from lf l 400 hl4)
        have PO := Lib.hid (okC_key l hl lf)
        have HNL : Hid (lf = true → Sl.fromN lf l = ⟨true, l, []⟩) := fun h => by rw [h]; rfl
        have HL4 := Lib.hid hl4
        clear HF1 HF2 HK1 hfl hl hl0 hu HUB hl4
        generalize Sl.fromN lf l = N at *
        go_upto_region 6 with (first
          | (go_at_call 19; (refine (HRS.out _ HL4.out HK3.out.below).mono ?_); rintro e w4 ⟨rfl, hb4⟩; have HK4 := Lib.hid (HK3.out.step (Nat.le_refl _) hb4); clear hb4)
          | (go_at_call 7; (with_reducible refine (HFR1.out _ HK4.out.below).mono ?_); rintro e w5 ⟨xv, rfl, hx, hb5⟩; obtain ⟨x1, x2, x3, x4, x5, x6, rfl⟩ := hx.form; have HX := Lib.hid hx; have HK5 := Lib.hid (HK4.out.step (Nat.le_refl _) hb5); clear hx hb5))
        clear HK2 HK3 HK4 HFR1
        rw [PL] at HX
        have HPL := Lib.hid PL
        have HK6 := Lib.hid (HK5.out.more (Nat.le_refl _) #[.bool lf, .slice x1 x2 x3, .slice x4 x5 x6] 32)
        have HX6 := Lib.hid (HX.out.below (allocB w5 (.cells #[.bool lf, .slice x1 x2 x3, .slice x4 x5 x6] 32)))
        clear HX HK5 PL
        generalize (w5.alloc (.cells #[.bool lf, .slice x1 x2 x3, .slice x4 x5 x6] 32)) = W6 at HK6 HX6 ⊢
        generalize w5.heap.size = p at HK6 ⊢
        have HFR := Lib.hid (nFrame_any _ N id 1 W6 HX6.out (by have := PA.out.1; omega) (by have := PA.out.2; omega) PO.out.1 PO.out.2)
        have HNDO := Lib.hid (NdOk.mk (by have := PA.out.1; omega) (by have := PA.out.2; omega) PO.out.1 PO.out.2 : NdOk N)
        obtain ⟨⟨c0, c1, c2⟩, _⟩ := HK6.out.right.three
        by_cases hfe : Sl.frE N = 0
        · obtain ⟨k1, k2, ks, hfr⟩ := frR_zero N id 1 hfe
          obtain ⟨M, HM⟩ := frBack N HNDO.out PA.out.1 PA.out.2 hfe
          have HOF := Lib.hid (HM.of id 1)
          rw [hfr] at HOF
          have HMF : Hid (M.leaf = lf) := HM.lf.trans HPL.out
          have HMS := Lib.hid HM.sum
          have HMO := Lib.hid HM.ok
          have HFRR := Lib.hid hfr
          have HFE := Lib.hid hfe
          clear hfr hfe HM
          go_upto_region 8 with (go_at_call 9; (with_reducible refine HFR.out.mono ?_); rintro e w7 ⟨he7, hb7⟩; rw [HFRR.out, HFE.out] at he7; subst he7; have HX7 := Lib.hid (HX6.out.below hb7); have HK7 := Lib.hid (HK6.out.step (Nat.le_refl _) hb7); clear hb7)
          clear HK6 HX6 HFR c0 c1 c2
          have HK8 := Lib.hid (HK7.out.more (Nat.le_refl _) #[.int .u8 k1, .int .u16 k2, .int .u32 id, .int .u64 1, .string ks] 27)
          have HX8 := Lib.hid (HX7.out.below (allocB w7 (.cells #[.int .u8 k1, .int .u16 k2, .int .u32 id, .int .u64 1, .string ks] 27)))
          clear HX7 HK7
          generalize (w7.alloc (.cells #[.int .u8 k1, .int .u16 k2, .int .u32 id, .int .u64 1, .string ks] 27)) = W7 at HK8 HX8 ⊢
          generalize w7.heap.size = a at HK8 ⊢
          obtain ⟨c0, c1, c2, c3, c4⟩ := HK8.out.right.five
          go_upto_region 9 with (go_at_call 11; (with_reducible refine (HOF.out _).mono ?_); rintro e w9 ⟨vm, rfl, hm, hb9⟩; obtain ⟨m1, m2, m3, m4, m5, m6, hmv⟩ := hm.form; rw [HMF.out] at hmv; subst hmv; have HM9 := Lib.hid hm; have HX9 := Lib.hid (HX8.out.below hb9); have HK9 := Lib.hid (HK8.out.step (Nat.le_refl _) hb9); clear hm hb9)
          clear HK8 HX8 HOF c0 c1 c2 c3 c4
          have HK10 := Lib.hid (HK9.out.more (Nat.le_refl _) #[.bool lf, .slice m1 m2 m3, .slice m4 m5 m6] 32)
          have HX10 := Lib.hid (HX9.out.below (allocB w9 (.cells #[.bool lf, .slice m1 m2 m3, .slice m4 m5 m6] 32)))
          have HM10 := Lib.hid (HM9.out.below (allocB w9 (.cells #[.bool lf, .slice m1 m2 m3, .slice m4 m5 m6] 32)))
          clear HX9 HM9 HK9
          generalize (w9.alloc (.cells #[.bool lf, .slice m1 m2 m3, .slice m4 m5 m6] 32)) = W8 at HK10 HX10 HM10 ⊢
          generalize w9.heap.size = m at HK10 ⊢
          have HSM := Lib.hid (fun W (hW : Below W8.heap.size W8 W) => nSize_any _ M W (HM10.out.below hW) HMO.out)
          have HSN := Lib.hid (fun W (hW : Below W8.heap.size W8 W) => nSize_any _ N W (HX10.out.below hW) HNDO.out)
          rw [HMS.out] at HSM
          have hF : Hid (W8.drew.cell? ⟨p, 0, none⟩ = some (.bool lf) ∧ W8.drew.cell? ⟨p, 1, none⟩ = some (.slice x1 x2 x3) ∧ W8.drew.cell? ⟨p, 2, none⟩ = some (.slice x4 x5 x6) ∧ W8.drew.cell? ⟨m, 0, none⟩ = some (.bool lf) ∧ W8.drew.cell? ⟨m, 1, none⟩ = some (.slice m1 m2 m3) ∧ W8.drew.cell? ⟨m, 2, none⟩ = some (.slice m4 m5 m6) ∧ W8.drew.cell? ⟨a, 2, none⟩ = some (.int .u32 id) ∧ Below W8.heap.size W8 W8.drew) := by
            obtain ⟨⟨z0, z1, z2⟩, _⟩ := HK10.out.left.left.right.three
            obtain ⟨_, _, y2, _⟩ := HK10.out.left.right.five
            obtain ⟨⟨t0, t1, t2⟩, _⟩ := HK10.out.right.three
            exact ⟨z0, z1, z2, t0, t1, t2, y2, (Below.refl _ _).drew⟩
          generalize Sl.ndSum N = z at *
          go_region_held3 (fun w' => w'.cell? ⟨p, 0, none⟩ = some (.bool lf) ∧ w'.cell? ⟨p, 1, none⟩ = some (.slice x1 x2 x3) ∧ w'.cell? ⟨p, 2, none⟩ = some (.slice x4 x5 x6) ∧ w'.cell? ⟨m, 0, none⟩ = some (.bool lf) ∧ w'.cell? ⟨m, 1, none⟩ = some (.slice m1 m2 m3) ∧ w'.cell? ⟨m, 2, none⟩ = some (.slice m4 m5 m6) ∧ w'.cell? ⟨a, 2, none⟩ = some (.int .u32 id) ∧ Below W8.heap.size W8 w')
            ((first | assumption | exact step7b (Nat.le_refl _) ‹_› hb | exact hF.out))
            (first
            | (go_at_call 14; (with_reducible refine (HSN.out _ (last7b (by assumption))).mono ?_); rintro e WW ⟨rfl, hb⟩)
            | (go_at_call 14; (with_reducible refine (HSM.out _ (last7b (by assumption))).mono ?_); rintro e WW0 ⟨rfl, hb⟩))
          rename_i hS
          have HKZ := Lib.hid (HK10.out.step (Nat.le_refl _) (last7b hS))
          have HXN := Lib.hid (HX10.out.below (last7b hS))
          have HKA := Lib.hid HKZ.out.left.left.left
          have HKP := Lib.hid HKZ.out.left.left.right
          clear hS hF HSM HSN HKZ HK10 HX10 HM10
          cases lf with
          | false =>
            go_wp2
            go_ret
            exact ⟨rfl, HKA.out.below⟩
          | true =>
            obtain rfl : N = ⟨true, l, []⟩ := HNL.out rfl
            have PB := Sl.putBack Sl.shC l x HUP.out
            have PBup := Lib.hid PB.up
            have PBupc : Hid (Sl.rises Sl.shC (Sl.cutL Sl.shC l x.key) = true) := PB.upc
            have PBat : Hid ((Sl.putL Sl.shC l x)[Sl.place Sl.shC (Sl.putL Sl.shC l x) x.key]? = some x) := PB.at_
            have PBth : Hid (Sl.there Sl.shC (Sl.putL Sl.shC l x) x.key = true) := PB.there_
            have PBcut : Hid (Sl.cutL Sl.shC (Sl.putL Sl.shC l x) x.key = Sl.cutL Sl.shC l x.key) := PB.cut
            have PBgone : Hid (Sl.there Sl.shC (Sl.cutL Sl.shC l x.key) x.key = false) := PB.gone
            have PBlen : Hid ((Sl.putL Sl.shC l x).length = (Sl.cutL Sl.shC l x.key).length + 1) := PB.len
            have PBwas : Hid (Sl.there Sl.shC l x.key = decide ((Sl.cutL Sl.shC l x.key).length < l.length)) := PB.was
            have hle : (Sl.cutL Sl.shC l x.key).length ≤ l.length := cutL_le l x.key
            have HQL : Hid ((Sl.cutL Sl.shC l x.key).length ≤ 400) := by have := HL4.out; show _ ≤ _; omega
            have HPUT := Lib.hid (putC_any _ _ x WW HXN.out rfl (by have := HL4.out; show l.length ≤ _; omega) HUP.out)
            have HCN := Lib.hid (fun W (hW : Below WW.heap.size WW W) => cut10_any _ _ x.key W (HXN.out.below hW) rfl (by have := HL4.out; show l.length ≤ _; omega) HUP.out)
            clear PB hle
            unfold aggC at HPUT
            change Hid (Calls _ _ _ _ (RetN ⟨true, Sl.putL Sl.shC l x, []⟩ _)) at HPUT
            change Hid (∀ W, _ → Calls _ _ _ W (CutNd l x.key W)) at HCN
            generalize Sl.putL Sl.shC l x = P at *
            generalize hQ : Sl.cutL Sl.shC l x.key = Q at *
            have HQ := Lib.hid hQ
            clear hQ
            obtain ⟨⟨c0, c1, c2, c3⟩, _⟩ := HKA.out.four
            obtain ⟨⟨d0, d1, d2⟩, _⟩ := HKP.out.three
            go_upto_region 14 with (go_at_call 20; (refine HPUT.out.mono ?_); rintro e w13 ⟨pv, rfl, hp, hb13⟩; obtain ⟨p1, p2, p3, p4, hpv⟩ := hp.form2; subst hpv; have HP13 := Lib.hid hp; have HW13 := Lib.hid hb13; have HKA3 := Lib.hid (HKA.out.step (Nat.le_refl _) hb13); have HKP3 := Lib.hid (HKP.out.step (Nat.le_refl _) hb13); clear hp hb13)
            have HPP := Lib.hid (HKA3.out.both HKP3.out)
            have HK14 := Lib.hid (HPP.out.more (Nat.le_refl _) #[.bool true, .slice p1 P.length p2, .slice p3 0 p4] 32)
            have HP14 := Lib.hid (HP13.out.below (allocB w13 (.cells #[.bool true, .slice p1 P.length p2, .slice p3 0 p4] 32)))
            have HW14 := Lib.hid (HW13.out.trans ((allocB w13 (.cells #[.bool true, .slice p1 P.length p2, .slice p3 0 p4] 32)).mono HW13.out.size))
            clear HPP HP13 HW13 HKA3 HKP3 HPUT c0 c1 c2 c3 d0 d1 d2 HKA HKP HXN
            generalize (w13.alloc (.cells #[.bool true, .slice p1 P.length p2, .slice p3 0 p4] 32)) = W14 at HK14 HP14 HW14 ⊢
            generalize w13.heap.size = pb at HK14 ⊢
            have HC1 := Lib.hid (cut10_any _ _ x.key W14 HP14.out rfl (by have := PBlen.out; have := HQL.out; show P.length ≤ _; omega) PBup.out)
            change Hid (Calls _ _ _ _ (CutNd P x.key _)) at HC1
            obtain ⟨⟨c0, c1, c2, c3⟩, _⟩ := HK14.out.left.left.four
            obtain ⟨⟨d0, d1, d2⟩, _⟩ := HK14.out.right.three
            go_upto_region 15 with (go_at_call 21; (refine HC1.out.mono ?_); rintro e w15 ⟨vc, x', he, hx', hv, hq, hb15⟩; rw [PBth.out] at he; have hxx := hx' PBth.out; rw [PBat.out] at hxx; injection hxx with hxx; subst hxx; subst he; rw [PBcut.out] at hv; obtain ⟨q1, q2, rfl⟩ := hv.form1; have HQ15 := Lib.hid hv; have HQC := Lib.hid hq; unfold ndV aggC; have HW15 := Lib.hid (HW14.out.trans (hb15.mono HW14.out.size)); have HK15 := Lib.hid (HK14.out.step (Nat.le_refl _) hb15); have HP15 := Lib.hid (HP14.out.below hb15); clear hv hq hb15 hx')
            have HK16 := Lib.hid (two_more HK15.out #[.bool true, .slice q1 Q.length q2, .slice none 0 0] 32 #[.string (str x.key), .string (str x.val), .int .u32 x.chain, .int .u32 x.long] 52)
            have hB16 := twoB' w15 (.cells #[.bool true, .slice q1 Q.length q2, .slice none 0 0] 32) (.cells #[.string (str x.key), .string (str x.val), .int .u32 x.chain, .int .u32 x.long] 52)
            have HQ16 : Hid (NdV ((w15.alloc (.cells #[.bool true, .slice q1 Q.length q2, .slice none 0 0] 32)).alloc (.cells #[.string (str x.key), .string (str x.val), .int .u32 x.chain, .int .u32 x.long] 52)) (.agg #[.bool true, .slice q1 Q.length q2, .slice none 0 0]) ⟨true, Q, []⟩) := ⟨_, _, rfl, HQ15.out.below hB16, HQC.out, SlK.nil _, cap_nil⟩
            have HP16 := Lib.hid (HP15.out.below hB16)
            have HW16 := Lib.hid (HW15.out.trans (hB16.mono HW15.out.size))
            clear HK14 HK15 HP14 HP15 HW14 HW15 HQ15 HC1 hB16 c0 c1 c2 c3 d0 d1 d2
            generalize ((w15.alloc (.cells #[.bool true, .slice q1 Q.length q2, .slice none 0 0] 32)).alloc (.cells #[.string (str x.key), .string (str x.val), .int .u32 x.chain, .int .u32 x.long] 52)) = W16 at HK16 HQ16 HP16 HW16 ⊢
            generalize w15.heap.size = qb at HK16 ⊢
            have HC2 := Lib.hid (HCN.out W16 HW16.out)
            obtain ⟨⟨c0, c1, c2, c3⟩, _⟩ := HK16.out.left.left.left.left.four
            obtain ⟨⟨d0, d1, d2⟩, _⟩ := HK16.out.left.left.left.right.three
            go_upto_region 16 with (go_at_call 21; (refine HC2.out.mono ?_); rintro e w17 ⟨vc2, x2, he, _, hv, hq, hb17⟩; subst he; rw [HQ.out] at hv; obtain ⟨r1, r2, rfl⟩ := hv.form1; have HR17 := Lib.hid hv; have HRC := Lib.hid hq; unfold ndV aggC; have HK17 := Lib.hid (HK16.out.step (Nat.le_refl _) hb17); have HP17 := Lib.hid (HP16.out.below hb17); have HQ17 := Lib.hid (HQ16.out.below hb17); clear hv hq hb17)
            have HK18 := Lib.hid (two_more HK17.out #[.bool true, .slice r1 Q.length r2, .slice none 0 0] 32 #[.string (str x2.key), .string (str x2.val), .int .u32 x2.chain, .int .u32 x2.long] 52)
            have hB18 := twoB' w17 (.cells #[.bool true, .slice r1 Q.length r2, .slice none 0 0] 32) (.cells #[.string (str x2.key), .string (str x2.val), .int .u32 x2.chain, .int .u32 x2.long] 52)
            have HR18 : Hid (NdV ((w17.alloc (.cells #[.bool true, .slice r1 Q.length r2, .slice none 0 0] 32)).alloc (.cells #[.string (str x2.key), .string (str x2.val), .int .u32 x2.chain, .int .u32 x2.long] 52)) (.agg #[.bool true, .slice r1 Q.length r2, .slice none 0 0]) ⟨true, Q, []⟩) := ⟨_, _, rfl, HR17.out.below hB18, HRC.out, SlK.nil _, cap_nil⟩
            have HP18 := Lib.hid (HP17.out.below hB18)
            have HQ18 := Lib.hid (HQ17.out.below hB18)
            clear HK16 HK17 HP16 HP17 HQ16 HQ17 HW16 HR17 HC2 HCN hB18 c0 c1 c2 c3 d0 d1 d2
            generalize ((w17.alloc (.cells #[.bool true, .slice r1 Q.length r2, .slice none 0 0] 32)).alloc (.cells #[.string (str x2.key), .string (str x2.val), .int .u32 x2.chain, .int .u32 x2.long] 52)) = W18 at HK18 HR18 HP18 HQ18 ⊢
            generalize w17.heap.size = rb at HK18 ⊢
            have HC3 := Lib.hid (cut10_any _ _ x.key W18 HQ18.out rfl (by have := HQL.out; show Q.length ≤ _; omega) PBupc.out)
            change Hid (Calls _ _ _ _ (CutNd Q x.key _)) at HC3
            obtain ⟨⟨c0, c1, c2, c3⟩, _⟩ := HK18.out.left.left.left.left.left.left.four
            obtain ⟨⟨d0, d1, d2⟩, _⟩ := HK18.out.left.left.left.right.three
            go_upto_region 17 with (go_at_call 21; (refine HC3.out.mono ?_); rintro e w19 ⟨vc3, x3, he, _, hv, hq, hb19⟩; rw [PBgone.out] at he; subst he; obtain ⟨s1, s2, rfl⟩ := hv.form1; unfold ndV aggC; have HK19 := Lib.hid (HK18.out.step (Nat.le_refl _) hb19); have HP19 := Lib.hid (HP18.out.below hb19); have HQ19 := Lib.hid (HQ18.out.below hb19); have HR19 := Lib.hid (HR18.out.below hb19); clear hv hq hb19)
            have hB20 := twoB' w19 (.cells #[.bool true, .slice s1 (Sl.cutL Sl.shC Q x.key).length s2, .slice none 0 0] 32) (.cells #[.string (str x3.key), .string (str x3.val), .int .u32 x3.chain, .int .u32 x3.long] 52)
            have HK20 := Lib.hid (HK19.out.step (Nat.le_refl _) hB20)
            have HP20 := Lib.hid (HP19.out.below hB20)
            have HQ20 := Lib.hid (HQ19.out.below hB20)
            have HR20 := Lib.hid (HR19.out.below hB20)
            clear HK18 HK19 HP18 HP19 HQ18 HQ19 HR18 HR19 HC3 hB20 c0 c1 c2 c3 d0 d1 d2
            generalize ((w19.alloc (.cells #[.bool true, .slice s1 (Sl.cutL Sl.shC Q x.key).length s2, .slice none 0 0] 32)).alloc (.cells #[.string (str x3.key), .string (str x3.val), .int .u32 x3.chain, .int .u32 x3.long] 52)) = W20 at HK20 HP20 HQ20 HR20 ⊢
            have HW20 := Lib.hid HK20.out.below
            have HSQ := Lib.hid (nsame_any _ _ ⟨true, Q, []⟩ W20 HQ20.out HR20.out (by have := HQL.out; show Q.length ≤ _; omega) (Nat.zero_le _))
            have HRP := Lib.hid (fun W (hW : Below W20.heap.size W20 W) => rising_any _ P (by have := PBlen.out; have := HQL.out; omega) W (HP20.out.slc.below hW))
            rw [PBup.out] at HRP
            have hpl : (P.length : Int) = (Q.length : Int) + 1 := by have := PBlen.out; omega
            have hwl : IntKind.i64.wrap ((Q.length : Int) + 1) = (Q.length : Int) + 1 := IntWalk.i64_in _ (by have := HQL.out; omega)
            obtain ⟨⟨c0, c1, c2, c3⟩, _⟩ := HK20.out.left.left.left.left.left.left.four
            obtain ⟨⟨e0, e1, e2, e3⟩, _⟩ := HK20.out.left.left.right.four
            obtain ⟨⟨d0, d1, d2⟩, _⟩ := HK20.out.left.left.left.right.three
            obtain ⟨⟨f0, f1, f2⟩, _⟩ := HK20.out.left.right.three
            have HWAS := Lib.hid PBwas.out
            by_cases hlt : (Q.length : Int) < (l.length : Int)
            · have hth : Sl.there Sl.shC l x.key = true := by rw [HWAS.out]; exact decide_eq_true (by omega)
              go_wp2_with (first
                | (go_at_call 18; (refine HSQ.out.mono ?_); rintro e w21 ⟨rfl, hb21⟩; have HK21 := Lib.hid (HK20.out.step (Nat.le_refl _) hb21); have HB21 := Lib.hid hb21; clear hb21 d0 d1 d2 f0 f1 f2; obtain ⟨⟨f0, f1, f2⟩, _⟩ := HK21.out.left.right.three; obtain ⟨⟨d0, d1, d2⟩, _⟩ := HK21.out.left.left.left.left.right.three)
                | (go_at_call 19; (refine (HRP.out _ HB21.out).mono ?_); rintro e w22 ⟨rfl, hb22⟩))
              go_ret
              first
              | exact ⟨rfl, HK21.out.below.trans (hb22.mono HK21.out.below.size)⟩
              | exact ⟨(by show Ending.returned (Value.bool (!decide (Q.length < l.length))) = _; rw [decide_eq_false (by omega)]; rfl), HK21.out.below.trans (hb22.mono HK21.out.below.size)⟩
            · have hth : Sl.there Sl.shC l x.key = false := by rw [HWAS.out]; exact decide_eq_false (by omega)
              go_wp2_with (first
                | (go_at_call 18; (refine HSQ.out.mono ?_); rintro e w21 ⟨rfl, hb21⟩; have HK21 := Lib.hid (HK20.out.step (Nat.le_refl _) hb21); have HB21 := Lib.hid hb21; clear hb21 d0 d1 d2 f0 f1 f2; obtain ⟨⟨f0, f1, f2⟩, _⟩ := HK21.out.left.right.three; obtain ⟨⟨d0, d1, d2⟩, _⟩ := HK21.out.left.left.left.left.right.three)
                | (go_at_call 19; (refine (HRP.out _ HB21.out).mono ?_); rintro e w22 ⟨rfl, hb22⟩))
              go_ret
              first
              | exact ⟨rfl, HK21.out.below.trans (hb22.mono HK21.out.below.size)⟩
              | exact ⟨(by show Ending.returned (Value.bool (!decide (Q.length < l.length))) = _; rw [decide_eq_false (by omega)]; rfl), HK21.out.below.trans (hb22.mono HK21.out.below.size)⟩
        · have hne := hfe
          obtain ⟨k1, k2, k3, k4, ks, hfr⟩ := frR_form N id 1
          have HFRR := Lib.hid hfr
          clear hfr
          go_upto_region 11 with (go_at_call 9; (with_reducible refine HFR.out.mono ?_); rintro e w7 ⟨he7, hb7⟩; rw [HFRR.out] at he7; subst he7; have HX7 := Lib.hid (HX6.out.below hb7); have HK7 := Lib.hid (HK6.out.step (Nat.le_refl _) hb7); clear hb7)
          have HK8 := Lib.hid (HK7.out.step (Nat.le_refl _) (allocB w7 (.cells #[.int .u8 k1, .int .u16 k2, .int .u32 k3, .int .u64 k4, .string ks] 27)))
          have HXN := Lib.hid (HX7.out.below (allocB w7 (.cells #[.int .u8 k1, .int .u16 k2, .int .u32 k3, .int .u64 k4, .string ks] 27)))
          have HKA := Lib.hid HK8.out.left
          have HKP := Lib.hid HK8.out.right
          clear HK6 HX6 HFR HX7 HK7 HK8 c0 c1 c2
          generalize (w7.alloc (.cells #[.int .u8 k1, .int .u16 k2, .int .u32 k3, .int .u64 k4, .string ks] 27)) = WW at HKA HKP HXN ⊢
          cases lf with
          | false =>
            go_wp2
            go_ret
            exact ⟨rfl, HKA.out.below⟩
          | true =>
            obtain rfl : N = ⟨true, l, []⟩ := HNL.out rfl
            have PB := Sl.putBack Sl.shC l x HUP.out
            have PBup := Lib.hid PB.up
            have PBupc : Hid (Sl.rises Sl.shC (Sl.cutL Sl.shC l x.key) = true) := PB.upc
            have PBat : Hid ((Sl.putL Sl.shC l x)[Sl.place Sl.shC (Sl.putL Sl.shC l x) x.key]? = some x) := PB.at_
            have PBth : Hid (Sl.there Sl.shC (Sl.putL Sl.shC l x) x.key = true) := PB.there_
            have PBcut : Hid (Sl.cutL Sl.shC (Sl.putL Sl.shC l x) x.key = Sl.cutL Sl.shC l x.key) := PB.cut
            have PBgone : Hid (Sl.there Sl.shC (Sl.cutL Sl.shC l x.key) x.key = false) := PB.gone
            have PBlen : Hid ((Sl.putL Sl.shC l x).length = (Sl.cutL Sl.shC l x.key).length + 1) := PB.len
            have PBwas : Hid (Sl.there Sl.shC l x.key = decide ((Sl.cutL Sl.shC l x.key).length < l.length)) := PB.was
            have hle : (Sl.cutL Sl.shC l x.key).length ≤ l.length := cutL_le l x.key
            have HQL : Hid ((Sl.cutL Sl.shC l x.key).length ≤ 400) := by have := HL4.out; show _ ≤ _; omega
            have HPUT := Lib.hid (putC_any _ _ x WW HXN.out rfl (by have := HL4.out; show l.length ≤ _; omega) HUP.out)
            have HCN := Lib.hid (fun W (hW : Below WW.heap.size WW W) => cut10_any _ _ x.key W (HXN.out.below hW) rfl (by have := HL4.out; show l.length ≤ _; omega) HUP.out)
            clear PB hle
            unfold aggC at HPUT
            change Hid (Calls _ _ _ _ (RetN ⟨true, Sl.putL Sl.shC l x, []⟩ _)) at HPUT
            change Hid (∀ W, _ → Calls _ _ _ W (CutNd l x.key W)) at HCN
            generalize Sl.putL Sl.shC l x = P at *
            generalize hQ : Sl.cutL Sl.shC l x.key = Q at *
            have HQ := Lib.hid hQ
            clear hQ
            obtain ⟨⟨c0, c1, c2, c3⟩, _⟩ := HKA.out.four
            obtain ⟨⟨d0, d1, d2⟩, _⟩ := HKP.out.three
            go_upto_region 14 with (go_at_call 20; (refine HPUT.out.mono ?_); rintro e w13 ⟨pv, rfl, hp, hb13⟩; obtain ⟨p1, p2, p3, p4, hpv⟩ := hp.form2; subst hpv; have HP13 := Lib.hid hp; have HW13 := Lib.hid hb13; have HKA3 := Lib.hid (HKA.out.step (Nat.le_refl _) hb13); have HKP3 := Lib.hid (HKP.out.step (Nat.le_refl _) hb13); clear hp hb13)
            have HPP := Lib.hid (HKA3.out.both HKP3.out)
            have HK14 := Lib.hid (HPP.out.more (Nat.le_refl _) #[.bool true, .slice p1 P.length p2, .slice p3 0 p4] 32)
            have HP14 := Lib.hid (HP13.out.below (allocB w13 (.cells #[.bool true, .slice p1 P.length p2, .slice p3 0 p4] 32)))
            have HW14 := Lib.hid (HW13.out.trans ((allocB w13 (.cells #[.bool true, .slice p1 P.length p2, .slice p3 0 p4] 32)).mono HW13.out.size))
            clear HPP HP13 HW13 HKA3 HKP3 HPUT c0 c1 c2 c3 d0 d1 d2 HKA HKP HXN
            generalize (w13.alloc (.cells #[.bool true, .slice p1 P.length p2, .slice p3 0 p4] 32)) = W14 at HK14 HP14 HW14 ⊢
            generalize w13.heap.size = pb at HK14 ⊢
            have HC1 := Lib.hid (cut10_any _ _ x.key W14 HP14.out rfl (by have := PBlen.out; have := HQL.out; show P.length ≤ _; omega) PBup.out)
            change Hid (Calls _ _ _ _ (CutNd P x.key _)) at HC1
            obtain ⟨⟨c0, c1, c2, c3⟩, _⟩ := HK14.out.left.left.four
            obtain ⟨⟨d0, d1, d2⟩, _⟩ := HK14.out.right.three
            go_upto_region 15 with (go_at_call 21; (refine HC1.out.mono ?_); rintro e w15 ⟨vc, x', he, hx', hv, hq, hb15⟩; rw [PBth.out] at he; have hxx := hx' PBth.out; rw [PBat.out] at hxx; injection hxx with hxx; subst hxx; subst he; rw [PBcut.out] at hv; obtain ⟨q1, q2, rfl⟩ := hv.form1; have HQ15 := Lib.hid hv; have HQC := Lib.hid hq; unfold ndV aggC; have HW15 := Lib.hid (HW14.out.trans (hb15.mono HW14.out.size)); have HK15 := Lib.hid (HK14.out.step (Nat.le_refl _) hb15); have HP15 := Lib.hid (HP14.out.below hb15); clear hv hq hb15 hx')
            have HK16 := Lib.hid (two_more HK15.out #[.bool true, .slice q1 Q.length q2, .slice none 0 0] 32 #[.string (str x.key), .string (str x.val), .int .u32 x.chain, .int .u32 x.long] 52)
            have hB16 := twoB' w15 (.cells #[.bool true, .slice q1 Q.length q2, .slice none 0 0] 32) (.cells #[.string (str x.key), .string (str x.val), .int .u32 x.chain, .int .u32 x.long] 52)
            have HQ16 : Hid (NdV ((w15.alloc (.cells #[.bool true, .slice q1 Q.length q2, .slice none 0 0] 32)).alloc (.cells #[.string (str x.key), .string (str x.val), .int .u32 x.chain, .int .u32 x.long] 52)) (.agg #[.bool true, .slice q1 Q.length q2, .slice none 0 0]) ⟨true, Q, []⟩) := ⟨_, _, rfl, HQ15.out.below hB16, HQC.out, SlK.nil _, cap_nil⟩
            have HP16 := Lib.hid (HP15.out.below hB16)
            have HW16 := Lib.hid (HW15.out.trans (hB16.mono HW15.out.size))
            clear HK14 HK15 HP14 HP15 HW14 HW15 HQ15 HC1 hB16 c0 c1 c2 c3 d0 d1 d2
            generalize ((w15.alloc (.cells #[.bool true, .slice q1 Q.length q2, .slice none 0 0] 32)).alloc (.cells #[.string (str x.key), .string (str x.val), .int .u32 x.chain, .int .u32 x.long] 52)) = W16 at HK16 HQ16 HP16 HW16 ⊢
            generalize w15.heap.size = qb at HK16 ⊢
            have HC2 := Lib.hid (HCN.out W16 HW16.out)
            obtain ⟨⟨c0, c1, c2, c3⟩, _⟩ := HK16.out.left.left.left.left.four
            obtain ⟨⟨d0, d1, d2⟩, _⟩ := HK16.out.left.left.left.right.three
            go_upto_region 16 with (go_at_call 21; (refine HC2.out.mono ?_); rintro e w17 ⟨vc2, x2, he, _, hv, hq, hb17⟩; subst he; rw [HQ.out] at hv; obtain ⟨r1, r2, rfl⟩ := hv.form1; have HR17 := Lib.hid hv; have HRC := Lib.hid hq; unfold ndV aggC; have HK17 := Lib.hid (HK16.out.step (Nat.le_refl _) hb17); have HP17 := Lib.hid (HP16.out.below hb17); have HQ17 := Lib.hid (HQ16.out.below hb17); clear hv hq hb17)
            have HK18 := Lib.hid (two_more HK17.out #[.bool true, .slice r1 Q.length r2, .slice none 0 0] 32 #[.string (str x2.key), .string (str x2.val), .int .u32 x2.chain, .int .u32 x2.long] 52)
            have hB18 := twoB' w17 (.cells #[.bool true, .slice r1 Q.length r2, .slice none 0 0] 32) (.cells #[.string (str x2.key), .string (str x2.val), .int .u32 x2.chain, .int .u32 x2.long] 52)
            have HR18 : Hid (NdV ((w17.alloc (.cells #[.bool true, .slice r1 Q.length r2, .slice none 0 0] 32)).alloc (.cells #[.string (str x2.key), .string (str x2.val), .int .u32 x2.chain, .int .u32 x2.long] 52)) (.agg #[.bool true, .slice r1 Q.length r2, .slice none 0 0]) ⟨true, Q, []⟩) := ⟨_, _, rfl, HR17.out.below hB18, HRC.out, SlK.nil _, cap_nil⟩
            have HP18 := Lib.hid (HP17.out.below hB18)
            have HQ18 := Lib.hid (HQ17.out.below hB18)
            clear HK16 HK17 HP16 HP17 HQ16 HQ17 HW16 HR17 HC2 HCN hB18 c0 c1 c2 c3 d0 d1 d2
            generalize ((w17.alloc (.cells #[.bool true, .slice r1 Q.length r2, .slice none 0 0] 32)).alloc (.cells #[.string (str x2.key), .string (str x2.val), .int .u32 x2.chain, .int .u32 x2.long] 52)) = W18 at HK18 HR18 HP18 HQ18 ⊢
            generalize w17.heap.size = rb at HK18 ⊢
            have HC3 := Lib.hid (cut10_any _ _ x.key W18 HQ18.out rfl (by have := HQL.out; show Q.length ≤ _; omega) PBupc.out)
            change Hid (Calls _ _ _ _ (CutNd Q x.key _)) at HC3
            obtain ⟨⟨c0, c1, c2, c3⟩, _⟩ := HK18.out.left.left.left.left.left.left.four
            obtain ⟨⟨d0, d1, d2⟩, _⟩ := HK18.out.left.left.left.right.three
            go_upto_region 17 with (go_at_call 21; (refine HC3.out.mono ?_); rintro e w19 ⟨vc3, x3, he, _, hv, hq, hb19⟩; rw [PBgone.out] at he; subst he; obtain ⟨s1, s2, rfl⟩ := hv.form1; unfold ndV aggC; have HK19 := Lib.hid (HK18.out.step (Nat.le_refl _) hb19); have HP19 := Lib.hid (HP18.out.below hb19); have HQ19 := Lib.hid (HQ18.out.below hb19); have HR19 := Lib.hid (HR18.out.below hb19); clear hv hq hb19)
            have hB20 := twoB' w19 (.cells #[.bool true, .slice s1 (Sl.cutL Sl.shC Q x.key).length s2, .slice none 0 0] 32) (.cells #[.string (str x3.key), .string (str x3.val), .int .u32 x3.chain, .int .u32 x3.long] 52)
            have HK20 := Lib.hid (HK19.out.step (Nat.le_refl _) hB20)
            have HP20 := Lib.hid (HP19.out.below hB20)
            have HQ20 := Lib.hid (HQ19.out.below hB20)
            have HR20 := Lib.hid (HR19.out.below hB20)
            clear HK18 HK19 HP18 HP19 HQ18 HQ19 HR18 HR19 HC3 hB20 c0 c1 c2 c3 d0 d1 d2
            generalize ((w19.alloc (.cells #[.bool true, .slice s1 (Sl.cutL Sl.shC Q x.key).length s2, .slice none 0 0] 32)).alloc (.cells #[.string (str x3.key), .string (str x3.val), .int .u32 x3.chain, .int .u32 x3.long] 52)) = W20 at HK20 HP20 HQ20 HR20 ⊢
            have HW20 := Lib.hid HK20.out.below
            have HSQ := Lib.hid (nsame_any _ _ ⟨true, Q, []⟩ W20 HQ20.out HR20.out (by have := HQL.out; show Q.length ≤ _; omega) (Nat.zero_le _))
            have HRP := Lib.hid (fun W (hW : Below W20.heap.size W20 W) => rising_any _ P (by have := PBlen.out; have := HQL.out; omega) W (HP20.out.slc.below hW))
            rw [PBup.out] at HRP
            have hpl : (P.length : Int) = (Q.length : Int) + 1 := by have := PBlen.out; omega
            have hwl : IntKind.i64.wrap ((Q.length : Int) + 1) = (Q.length : Int) + 1 := IntWalk.i64_in _ (by have := HQL.out; omega)
            obtain ⟨⟨c0, c1, c2, c3⟩, _⟩ := HK20.out.left.left.left.left.left.left.four
            obtain ⟨⟨e0, e1, e2, e3⟩, _⟩ := HK20.out.left.left.right.four
            obtain ⟨⟨d0, d1, d2⟩, _⟩ := HK20.out.left.left.left.right.three
            obtain ⟨⟨f0, f1, f2⟩, _⟩ := HK20.out.left.right.three
            have HWAS := Lib.hid PBwas.out
            by_cases hlt : (Q.length : Int) < (l.length : Int)
            · have hth : Sl.there Sl.shC l x.key = true := by rw [HWAS.out]; exact decide_eq_true (by omega)
              go_wp2_with (first
                | (go_at_call 18; (refine HSQ.out.mono ?_); rintro e w21 ⟨rfl, hb21⟩; have HK21 := Lib.hid (HK20.out.step (Nat.le_refl _) hb21); have HB21 := Lib.hid hb21; clear hb21 d0 d1 d2 f0 f1 f2; obtain ⟨⟨f0, f1, f2⟩, _⟩ := HK21.out.left.right.three; obtain ⟨⟨d0, d1, d2⟩, _⟩ := HK21.out.left.left.left.left.right.three)
                | (go_at_call 19; (refine (HRP.out _ HB21.out).mono ?_); rintro e w22 ⟨rfl, hb22⟩))
              go_ret
              first
              | exact ⟨rfl, HK21.out.below.trans (hb22.mono HK21.out.below.size)⟩
              | exact ⟨(by show Ending.returned (Value.bool (!decide (Q.length < l.length))) = _; rw [decide_eq_false (by omega)]; rfl), HK21.out.below.trans (hb22.mono HK21.out.below.size)⟩
            · have hth : Sl.there Sl.shC l x.key = false := by rw [HWAS.out]; exact decide_eq_false (by omega)
              go_wp2_with (first
                | (go_at_call 18; (refine HSQ.out.mono ?_); rintro e w21 ⟨rfl, hb21⟩; have HK21 := Lib.hid (HK20.out.step (Nat.le_refl _) hb21); have HB21 := Lib.hid hb21; clear hb21 d0 d1 d2 f0 f1 f2; obtain ⟨⟨f0, f1, f2⟩, _⟩ := HK21.out.left.right.three; obtain ⟨⟨d0, d1, d2⟩, _⟩ := HK21.out.left.left.left.left.right.three)
                | (go_at_call 19; (refine (HRP.out _ HB21.out).mono ?_); rintro e w22 ⟨rfl, hb22⟩))
              go_ret
              first
              | exact ⟨rfl, HK21.out.below.trans (hb22.mono HK21.out.below.size)⟩
              | exact ⟨(by show Ending.returned (Value.bool (!decide (Q.length < l.length))) = _; rw [decide_eq_false (by omega)]; rfl), HK21.out.below.trans (hb22.mono HK21.out.below.size)⟩
    · have HK3 := Lib.hid ((HK2.out.step (Nat.le_refl _) (allocB w2 _)).step (Nat.le_refl _) hb3)
      go_wp2
      go_ret
      exact ⟨rfl, HK3.out.below⟩
  · have HK2 := Lib.hid (HK1.out.step (Nat.le_refl _) hb2)
    go_wp2
    go_ret
    exact ⟨rfl, HK2.out.below⟩
end Go.Proofs.YtemfbkelenaaeaaGreat
/- A row of cells that is handed in, as the walk takes it. -/
namespace Go.Proofs.YtemfbkelenaaeaaGreat
open Go.ChangeShapes Go.WideShapes Go.ChangeAt Go.RowKit Go.Deep
open Sl (Cl Kd)
theorem cells42 : Tryz.prog.cellsOf 52 = 4 := by kernel_rfl
theorem cellsS : Tryz.prog.cellsOf 9 = 1 ∧ Tryz.prog.cellsOf 23 = 1 := ⟨by kernel_rfl, by kernel_rfl⟩
instance : Inhabited Cl := ⟨⟨[], [], 0, 0⟩⟩
theorem list4 {α : Type} (l : List α) (h : l.length = 4) : ∃ a b c d, l = [a, b, c, d] := by
  rcases l with _ | ⟨a, _ | ⟨b, _ | ⟨c, _ | ⟨d, _ | ⟨e, l⟩⟩⟩⟩⟩
  all_goals first | (cases h; done) | exact ⟨_, _, _, _, rfl⟩ | (simp at h)
set_option maxRecDepth 100000 in
theorem open_cells {H : Type} {enc : TypeId × Value → H} {W : World} {r : Reach} {b0 b1 : Nat} {sp : Nat → Bool} {held : Bool} {v : Value} {d : DataW H} {p : List MemPlace}
    (hv : Value.okWide Tryz.prog W r b0 22 v) (h : DataW.Trod enc Tryz.prog W b1 sp held 22 v d p) :
    ∃ l : List Cl, l.length ≤ maxLen ∧ (∀ x ∈ l, okC x) ∧ SlC W v l := by
  obtain ⟨a0, len, cap, rfl⟩ := okWide_slice Tryz.underlying22 hv
  obtain ⟨fuel, hf⟩ := h
  rcases open_slice Tryz.underlying22 hf with hcs | ⟨a, len', cap', m, n, D, Pl, hcs, _, hl, hm, hz, _, hcell⟩
  · have hcs := hcs.1
    simp [Value.cells] at hcs
    obtain ⟨rfl, rfl, rfl⟩ := hcs
    exact ⟨[], Nat.zero_le _, fun p hp => by simp at hp, none, 0, 0, 0, rfl, .inl rfl, fun j p hj => by simp at hj⟩
  · simp [Value.cells] at hcs
    obtain ⟨rfl, rfl, rfl⟩ := hcs
    have hlen : len ≤ m := by rw [hz]; split <;> omega
    have each : ∀ i, i < len → ∃ x : Cl, okC x ∧ W.cell? (a.add (i * 4)) = some (.string (str x.key)) ∧ W.cell? (a.add (i * 4 + 1)) = some (.string (str x.val)) ∧ W.cell? (a.add (i * 4 + 2)) = some (.int .u32 x.chain) ∧ W.cell? (a.add (i * 4 + 3)) = some (.int .u32 x.long) := by
      intro i hi
      obtain ⟨cs', h1, h2⟩ := hcell i (by omega)
      rw [cells42] at h1
      obtain ⟨_, hlen', hcc⟩ := World.cells?_some h1
      obtain ⟨xs, k, hk, hxy, _, hxl, hf'⟩ := DataW.trod_struct Tryz.underlying52 h2
      obtain ⟨v0, v1, v2, v3, rfl⟩ := list4 cs' hlen'
      obtain ⟨y0, y1, y2, y3, rfl⟩ := list4 xs hxl
      have g0 : DataW.trod enc Tryz.prog W b1 sp held k 9 ([v0, v1, v2, v3].drop 0 |>.take (Tryz.prog.cellsOf 9)) = some y0 := hf' 0 _ rfl
      have g1 : DataW.trod enc Tryz.prog W b1 sp held k 9 ([v0, v1, v2, v3].drop 1 |>.take (Tryz.prog.cellsOf 9)) = some y1 := hf' 1 _ rfl
      have g2 : DataW.trod enc Tryz.prog W b1 sp held k 23 ([v0, v1, v2, v3].drop 2 |>.take (Tryz.prog.cellsOf 23)) = some y2 := hf' 2 _ rfl
      have g3 : DataW.trod enc Tryz.prog W b1 sp held k 23 ([v0, v1, v2, v3].drop 3 |>.take (Tryz.prog.cellsOf 23)) = some y3 := hf' 3 _ rfl
      rw [cellsS.1] at g0 g1
      rw [cellsS.2] at g2 g3
      obtain ⟨s, hs, _, _⟩ := DataW.trod_string Tryz.underlying9 g0
      obtain ⟨t, ht, _, _⟩ := DataW.trod_string Tryz.underlying9 g1
      obtain ⟨q, hq, _, wq⟩ := DataW.trod_int Tryz.underlying23 g2
      obtain ⟨u, hu, _, wu⟩ := DataW.trod_int Tryz.underlying23 g3
      have c0 := hcc 0 (by omega)
      have c1 := hcc 1 (by omega)
      have c2 := hcc 2 (by omega)
      have c3 := hcc 3 (by omega)
      rw [add_add] at c0 c1 c2 c3
      have hs' : v0 = .string s := by simpa using hs
      have ht' : v1 = .string t := by simpa using ht
      have hq' : v2 = .int .u32 q := by simpa using hq
      have hu' : v3 = .int .u32 u := by simpa using hu
      obtain ⟨h3, h4⟩ := bounds_u32 wq
      obtain ⟨h5, h6⟩ := bounds_u32 wu
      obtain ⟨N, rfl⟩ := Int.eq_ofNat_of_zero_le h3
      obtain ⟨M, rfl⟩ := Int.eq_ofNat_of_zero_le h5
      refine ⟨⟨s.data.toList, t.data.toList, N, M⟩, ⟨by show N < _; omega, by show M < _; omega⟩, ?_, ?_, ?_, ?_⟩
      · rw [str_eq, ← hs']; simpa using c0
      · rw [str_eq, ← ht']; simpa using c1
      · rw [← hq']; simpa using c2
      · rw [← hu']; simpa using c3
    by_cases h0 : len = 0
    · subst h0
      exact ⟨[], Nat.zero_le _, fun p hp => by simp at hp, some a, 0, 0, cap, rfl, .inl rfl, fun j p hj => by simp at hj⟩
    · obtain ⟨b, off, spot⟩ := a
      obtain ⟨p0, _, hsp, _⟩ := each 0 (by omega)
      have hspot : spot = none := by simpa [Addr.add] using World.cell?_spot hsp
      subst hspot
      obtain ⟨f, hfx⟩ := choose_lt each
      refine ⟨(List.range len).map f, by simp; omega, ?_, some ⟨b, off, none⟩, b, off, cap, by simp, .inr rfl, fun j p hj => ?_⟩
      · intro p hp
        obtain ⟨i, hi, rfl⟩ := List.mem_map.1 hp
        exact (hfx i (List.mem_range.1 hi)).1
      · have hjl : j < len := by
          have := (List.getElem?_eq_some_iff.1 hj).1
          simpa using this
        simp [hjl] at hj
        subst hj
        obtain ⟨_, c0, c1, c2, c3⟩ := hfx j hjl
        rw [add_plain] at c0 c1 c2 c3
        refine ⟨c0, ?_, ?_, ?_⟩
        · rw [Nat.add_assoc]; exact c1
        · rw [Nat.add_assoc]; exact c2
        · rw [Nat.add_assoc]; exact c3
end Go.Proofs.YtemfbkelenaaeaaGreat
/- The arguments of the laws of nodes, opened. -/
namespace Go.Proofs.YtemfbkelenaaeaaGreat
open Go.RowKit Go.ChangeShapes Go.WideShapes Go.Deep
open Sl (Cl Kd)
theorem open_cap {H : Type} {enc : TypeId × Value → H} {W : World} {r : Reach} {b0 b1 : Nat} {sp : Nat → Bool} {held : Bool} {v : Value} {d : DataW H} {p : List MemPlace}
    (hv : Value.okWide Tryz.prog W r b0 22 v) (h : DataW.Trod enc Tryz.prog W b1 sp held 22 v d p) : Cap v := by
  obtain ⟨a0, len, cap, rfl⟩ := okWide_slice Tryz.underlying22 hv
  obtain ⟨fuel, hf⟩ := h
  rcases open_slice Tryz.underlying22 hf with hcs | ⟨a, len', cap', m, n, D, Pl, hcs, _, hl, hm, _⟩
  · have hcs := hcs.1
    simp [Value.cells] at hcs
    obtain ⟨rfl, rfl, rfl⟩ := hcs
    exact ⟨none, 0, 0, Nat.le_refl _, Nat.zero_le _, fun _ => rfl⟩
  · simp [Value.cells] at hcs
    obtain ⟨rfl, rfl, rfl⟩ := hcs
    exact ⟨some a, len, cap, hl, hm, fun h => by cases h⟩
end Go.Proofs.YtemfbkelenaaeaaGreat
