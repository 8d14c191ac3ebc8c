/- NodeFrames: for every sort, row, number, transaction and frame the law answers true. No condition of its own. -/
import Derived.Test.YtemfbkelenaaeaaGreatM11
import Derived.Test.YtemfbkelenaaeaaGreatM10
import Derived.Test.YtemfbkelenaaeaaGreatM08
import Derived.Test.YtemfbkelenaaeaaGreatM12
import Derived.Test.YtemfbkelenaaeaaGreatM13
import Derived.Test.YtemfbkelenaaeaaGreatM20
import Derived.Deep.DeepCutAuto
import Derived.Deep.RegionHeld3
import Derived.Test.YtemfbkelenaaeaaGreatM04
import Derived.ProofKit
import Derived.OpenShut
import Derived.ShutString
import Derived.ChangeOld
import Derived.Carry
import Derived.Deep.Slices
import Derived.Lib.SmallJoins
import Derived.WalkKit
import Derived.Below
set_option maxRecDepth 100000
set_option maxHeartbeats 4000000
set_option linter.unusedVariables false
/- Twenty cells that stay as they were. -/
namespace Go.Proofs.YtemfbkelenaaeaaGreat
open Go.RowKit
theorem step20 {w w1 w2 : World} {B : Nat} {p0 p1 p2 p3 p4 p5 p6 p7 p8 p9 p10 p11 p12 p13 p14 p15 p16 p17 p18 p19 : Addr} {x0 x1 x2 x3 x4 x5 x6 x7 x8 x9 x10 x11 x12 x13 x14 x15 x16 x17 x18 x19 : Value} (hB : B ≤ w.heap.size) (H : w1.cell? p0 = some x0 ∧ w1.cell? p1 = some x1 ∧ w1.cell? p2 = some x2 ∧ w1.cell? p3 = some x3 ∧ w1.cell? p4 = some x4 ∧ w1.cell? p5 = some x5 ∧ w1.cell? p6 = some x6 ∧ w1.cell? p7 = some x7 ∧ w1.cell? p8 = some x8 ∧ w1.cell? p9 = some x9 ∧ w1.cell? p10 = some x10 ∧ w1.cell? p11 = some x11 ∧ w1.cell? p12 = some x12 ∧ w1.cell? p13 = some x13 ∧ w1.cell? p14 = some x14 ∧ w1.cell? p15 = some x15 ∧ w1.cell? p16 = some x16 ∧ w1.cell? p17 = some x17 ∧ w1.cell? p18 = some x18 ∧ w1.cell? p19 = some x19 ∧ Below B w w1) (hb : Below w1.heap.size w1 w2) : w2.cell? p0 = some x0 ∧ w2.cell? p1 = some x1 ∧ w2.cell? p2 = some x2 ∧ w2.cell? p3 = some x3 ∧ w2.cell? p4 = some x4 ∧ w2.cell? p5 = some x5 ∧ w2.cell? p6 = some x6 ∧ w2.cell? p7 = some x7 ∧ w2.cell? p8 = some x8 ∧ w2.cell? p9 = some x9 ∧ w2.cell? p10 = some x10 ∧ w2.cell? p11 = some x11 ∧ w2.cell? p12 = some x12 ∧ w2.cell? p13 = some x13 ∧ w2.cell? p14 = some x14 ∧ w2.cell? p15 = some x15 ∧ w2.cell? p16 = some x16 ∧ w2.cell? p17 = some x17 ∧ w2.cell? p18 = some x18 ∧ w2.cell? p19 = some x19 ∧ Below B w w2 := by
  obtain ⟨h0, h1, h2, h3, h4, h5, h6, h7, h8, h9, h10, h11, h12, h13, h14, h15, h16, h17, h18, h19, hq⟩ := H
  exact ⟨(hb.cell (p := p0) (World.block_lt_of_cell? _ _ h0)).trans h0, (hb.cell (p := p1) (World.block_lt_of_cell? _ _ h1)).trans h1, (hb.cell (p := p2) (World.block_lt_of_cell? _ _ h2)).trans h2, (hb.cell (p := p3) (World.block_lt_of_cell? _ _ h3)).trans h3, (hb.cell (p := p4) (World.block_lt_of_cell? _ _ h4)).trans h4, (hb.cell (p := p5) (World.block_lt_of_cell? _ _ h5)).trans h5, (hb.cell (p := p6) (World.block_lt_of_cell? _ _ h6)).trans h6, (hb.cell (p := p7) (World.block_lt_of_cell? _ _ h7)).trans h7, (hb.cell (p := p8) (World.block_lt_of_cell? _ _ h8)).trans h8, (hb.cell (p := p9) (World.block_lt_of_cell? _ _ h9)).trans h9, (hb.cell (p := p10) (World.block_lt_of_cell? _ _ h10)).trans h10, (hb.cell (p := p11) (World.block_lt_of_cell? _ _ h11)).trans h11, (hb.cell (p := p12) (World.block_lt_of_cell? _ _ h12)).trans h12, (hb.cell (p := p13) (World.block_lt_of_cell? _ _ h13)).trans h13, (hb.cell (p := p14) (World.block_lt_of_cell? _ _ h14)).trans h14, (hb.cell (p := p15) (World.block_lt_of_cell? _ _ h15)).trans h15, (hb.cell (p := p16) (World.block_lt_of_cell? _ _ h16)).trans h16, (hb.cell (p := p17) (World.block_lt_of_cell? _ _ h17)).trans h17, (hb.cell (p := p18) (World.block_lt_of_cell? _ _ h18)).trans h18, (hb.cell (p := p19) (World.block_lt_of_cell? _ _ h19)).trans h19, hq.trans (hb.mono (Nat.le_trans hB hq.size))⟩
theorem last20 {w w1 : World} {B : Nat} {p0 p1 p2 p3 p4 p5 p6 p7 p8 p9 p10 p11 p12 p13 p14 p15 p16 p17 p18 p19 : Addr} {x0 x1 x2 x3 x4 x5 x6 x7 x8 x9 x10 x11 x12 x13 x14 x15 x16 x17 x18 x19 : Value} (H : w1.cell? p0 = some x0 ∧ w1.cell? p1 = some x1 ∧ w1.cell? p2 = some x2 ∧ w1.cell? p3 = some x3 ∧ w1.cell? p4 = some x4 ∧ w1.cell? p5 = some x5 ∧ w1.cell? p6 = some x6 ∧ w1.cell? p7 = some x7 ∧ w1.cell? p8 = some x8 ∧ w1.cell? p9 = some x9 ∧ w1.cell? p10 = some x10 ∧ w1.cell? p11 = some x11 ∧ w1.cell? p12 = some x12 ∧ w1.cell? p13 = some x13 ∧ w1.cell? p14 = some x14 ∧ w1.cell? p15 = some x15 ∧ w1.cell? p16 = some x16 ∧ w1.cell? p17 = some x17 ∧ w1.cell? p18 = some x18 ∧ w1.cell? p19 = some x19 ∧ Below B w w1) : Below B w w1 := H.2.2.2.2.2.2.2.2.2.2.2.2.2.2.2.2.2.2.2.2
theorem Kp.five {B : Nat} {w0 w : World} {g : Nat} {x0 x1 x2 x3 x4 : Value} (h : Kp B w0 (row1 g #[x0, x1, x2, x3, x4]) w) : w.cell? ⟨g, 0, none⟩ = some x0 ∧ w.cell? ⟨g, 1, none⟩ = some x1 ∧ w.cell? ⟨g, 2, none⟩ = some x2 ∧ w.cell? ⟨g, 3, none⟩ = some x3 ∧ w.cell? ⟨g, 4, none⟩ = some x4 := by
  have hm : ∀ i, i < 5 → ((⟨g, i, none⟩ : Addr), (#[x0, x1, x2, x3, x4] : Array Value)[i]!) ∈ row1 g #[x0, x1, x2, x3, x4] := fun i hi => List.mem_map.2 ⟨i, List.mem_range.2 hi, rfl⟩
  exact ⟨h.cell _ (hm 0 (by decide)), h.cell _ (hm 1 (by decide)), h.cell _ (hm 2 (by decide)), h.cell _ (hm 3 (by decide)), h.cell _ (hm 4 (by decide))⟩
/-- One box more. -/
theorem Kp.more {B : Nat} {w0 w : World} {L : List (Addr × Value)} (h : Kp B w0 L w) (hB : B ≤ w0.heap.size) (A : Array Value) (T : TypeId) : Kp B w0 (L ++ row1 w.heap.size A) (w.alloc (.cells A T)) :=
  (h.step hB ((Below.refl _ _).alloc (Nat.le_refl _) _)).both (Kp.laid h.below (Nat.le_trans hB h.below.size) A T)
end Go.Proofs.YtemfbkelenaaeaaGreat
/- The walk of the law NodeFrames. -/
namespace Go.Proofs.YtemfbkelenaaeaaGreat
open Go.RowKit
open Sl (Cl Kd Nd Rn)
theorem alloc_below (w : World) (o : Obj) : Below w.heap.size w (w.alloc o) := (Below.refl _ _).alloc (Nat.le_refl _) _
set_option maxHeartbeats 8000000 in
theorem frames_walk (lf : Bool) (u : Value) (l : List Cl) (id tx ka kb kc kd : Int) (s : List UInt8) (hl0 : l.length ≤ maxLen) (hl : ∀ x ∈ l, okC x) (hkb0 : 0 ≤ kb) (hkb1 : kb < 65536) (w : World) (hu : SlC w u l) (hcu : Cap u) :
    Calls Tryz.prog 3 #[.bool lf, u, .int .u32 id, .int .u64 tx, .agg #[.int .u8 ka, .int .u16 kb, .int .u32 kc, .int .u64 kd, .string (str s)]] w fun e w' => e = .returned (.bool true) ∧ Below w.heap.size w w' := by
  have HUB : Hid (∀ W, Below w.heap.size w W → SlC W u l) := fun W hW => hu.below hW
  have HF1 := Lib.hid (fun W hW => few_any u l hl0 W hW)
  have hsz := str_size s
  have HK0 := Lib.hid (Kp.laid (Below.refl _ w) (Nat.le_refl _) #[.int .u8 ka, .int .u16 kb, .int .u32 kc, .int .u64 kd, .string (str s)] 27)
  go_enter Tryz.func3, Tryz.ntmps3
  go_wp2_with (first
    | (go_at_call 5; refine (nawake_any _).mono ?_; rintro e w1 ⟨rfl, hb1⟩; have HK1 := Lib.hid (HK0.out.step (Nat.le_refl _) hb1); clear hb1)
    | (go_at_call 6; refine (HF1.out _ (HUB.out _ HK1.out.below)).mono ?_))
  rintro e w2 (⟨rfl, hfl, hb2⟩ | ⟨rfl, hb2⟩)
  · have HK2 := Lib.hid (HK1.out.step (Nat.le_refl _) hb2)
    clear hb2
    obtain ⟨c0, c1, c2, c3, c4⟩ := HK2.out.five
    by_cases hk : (5000 : Int) < s.length
    · go_wp2
      go_ret
      exact ⟨rfl, HK2.out.below⟩
    · have hl4 : l.length ≤ 400 := hfl.1
      have HFR1 := Lib.hid (fun W (hW : Below w.heap.size w W) => from_any lf u l W (HUB.out W hW) hcu (by omega))
      have HFRX := Lib.hid (fun W (hW : Below w.heap.size w W) => from_any (!lf) u l W (HUB.out W hW) hcu (by omega))
      obtain ⟨uc, ul, uC, _, _, _⟩ := hcu
      have hul : ul = l.length := by obtain ⟨_, _, _, _, h, _⟩ := hu; simp at h; exact h.2.1
      subst hul
      have PL : (Sl.fromN lf l).leaf = lf := by cases lf <;> rfl
      have PX : (Sl.fromN lf l).leaf = !(Sl.fromN (!lf) l).leaf := by cases lf <;> rfl
      have HPL := Lib.hid PL
      have HPX := Lib.hid PX
      have PA := Lib.hid (Sl.lim_from lf l 400 hl4)
      have PO := Lib.hid (okC_key l hl lf)
      have PR := Lib.hid (ok_toR l hl (fun x hx => (hfl.2 x hx).2) lf)
      obtain ⟨M, r2, HOF⟩ := of_both ka kb kc kd hkb0 hkb1 s (by omega)
      have HOF1 := Lib.hid HOF.prog
      have HOF2 := Lib.hid HOF.doc
      have HOFc := Lib.hid HOF.lc
      have HOFk := Lib.hid HOF.lk
      clear HF1 HK1 hfl hl hl0 hu HUB HOF PX hkb0 hkb1 c0 c1 c2 c3
      generalize Sl.fromN lf l = N at *
      generalize Sl.fromN (!lf) l = N' at *
      go_upto_region 6 with (first
        | (go_at_call 7; (with_reducible refine (HFR1.out _ HK2.out.below).mono ?_); rintro e w3 ⟨x, rfl, hx, hb3⟩; obtain ⟨x1, x2, x3, x4, x5, x6, rfl⟩ := hx.form; have HX := Lib.hid hx; have HK3 := Lib.hid (HK2.out.step (Nat.le_refl _) hb3); clear hx hb3))
      clear HK2 HFR1 c4
      rw [PL] at HX
      have HK4 := Lib.hid (HK3.out.more (Nat.le_refl _) #[.bool lf, .slice x1 x2 x3, .slice x4 x5 x6] 32)
      have HX4 := Lib.hid (HX.out.below (alloc_below w3 (.cells #[.bool lf, .slice x1 x2 x3, .slice x4 x5 x6] 32)))
      clear HX HK3 PL
      generalize (w3.alloc (.cells #[.bool lf, .slice x1 x2 x3, .slice x4 x5 x6] 32)) = W4 at HK4 HX4 ⊢
      generalize w3.heap.size = p at HK4 ⊢
      have HTO := Lib.hid (to_any _ N W4 HX4.out (by have := PA.out.2; omega))
      obtain ⟨⟨c0, c1, c2⟩, _⟩ := HK4.out.right.three
      go_upto_region 7 with (first
        | (go_at_call 8; (with_reducible refine HTO.out.mono ?_); rintro e w5 ⟨y, rfl, hy, hb5⟩; obtain ⟨y1, y2, y3, hyv⟩ := hy.form; rw [show (Sl.toR N).leaf = lf from HPL.out] at hyv; subst hyv; have HY := Lib.hid hy; have HX5 := Lib.hid (HX4.out.below hb5); have HK5 := Lib.hid (HK4.out.step (Nat.le_refl _) hb5); clear hy hb5))
      clear HK4 HX4 HTO c0 c1 c2
      have HK6 := Lib.hid (HK5.out.more (Nat.le_refl _) #[.bool lf, .slice y1 y2 y3] 35)
      have HX6 := Lib.hid (HX5.out.below (alloc_below w5 (.cells #[.bool lf, .slice y1 y2 y3] 35)))
      have HY6 := Lib.hid (HY.out.below (alloc_below w5 (.cells #[.bool lf, .slice y1 y2 y3] 35)))
      clear HX5 HY HK5
      generalize (w5.alloc (.cells #[.bool lf, .slice y1 y2 y3] 35)) = W6 at HK6 HX6 HY6 ⊢
      generalize w5.heap.size = q at HK6 ⊢
      have HFR := Lib.hid (nFrame_any _ N id tx W6 HX6.out (by have := PA.out.1; omega) (by have := PA.out.2; omega) PO.out.1 PO.out.2)
      have HRF := Lib.hid (fun W (hW : Below W6.heap.size W6 W) => rFrame_any _ N id tx W (HY6.out.below hW) (by have := Sl.lim_toR N 400 PA.out; omega) PR.out)
      obtain ⟨k1, k2, k3, k4, ks, hfr⟩ := frR_form N id tx
      have HFRR := Lib.hid hfr
      clear hfr
      obtain ⟨⟨c0, c1, c2⟩, _⟩ := HK6.out.left.right.three
      go_upto_region 8 with (first
        | (go_at_call 9; (with_reducible refine HFR.out.mono ?_); rintro e w7 ⟨he7, hb7⟩; rw [HFRR.out] at he7; subst he7; have HB7 := Lib.hid hb7; have HX7 := Lib.hid (HX6.out.below hb7); have HY7 := Lib.hid (HY6.out.below hb7); have HK7 := Lib.hid (HK6.out.step (Nat.le_refl _) hb7); clear hb7))
      clear HK6 HX6 HY6 HFR c0 c1 c2
      have HK8 := Lib.hid (HK7.out.more (Nat.le_refl _) #[.int .u8 k1, .int .u16 k2, .int .u32 k3, .int .u64 k4, .string ks] 27)
      have HX8 := Lib.hid (HX7.out.below (alloc_below w7 (.cells #[.int .u8 k1, .int .u16 k2, .int .u32 k3, .int .u64 k4, .string ks] 27)))
      have HY8 := Lib.hid (HY7.out.below (alloc_below w7 (.cells #[.int .u8 k1, .int .u16 k2, .int .u32 k3, .int .u64 k4, .string ks] 27)))
      have HB8 := Lib.hid (HB7.out.trans ((alloc_below w7 (.cells #[.int .u8 k1, .int .u16 k2, .int .u32 k3, .int .u64 k4, .string ks] 27)).mono HB7.out.size))
      clear HX7 HY7 HK7 HB7
      generalize (w7.alloc (.cells #[.int .u8 k1, .int .u16 k2, .int .u32 k3, .int .u64 k4, .string ks] 27)) = W8 at HK8 HX8 HY8 HB8 ⊢
      generalize w7.heap.size = a at HK8 ⊢
      obtain ⟨⟨c0, c1⟩, _⟩ := HK8.out.left.right.two
      go_upto_region 9 with (first
        | (go_at_call 10; (with_reducible refine (HRF.out _ HB8.out).mono ?_); rintro e w9 ⟨he9, hb9⟩; rw [HFRR.out] at he9; subst he9; have HX9 := Lib.hid (HX8.out.below hb9); have HY9 := Lib.hid (HY8.out.below hb9); have HK9 := Lib.hid (HK8.out.step (Nat.le_refl _) hb9); clear hb9))
      clear HK8 HX8 HY8 HRF HB8 HFRR c0 c1
      have HK10 := Lib.hid (HK9.out.more (Nat.le_refl _) #[.int .u8 k1, .int .u16 k2, .int .u32 k3, .int .u64 k4, .string ks] 40)
      have HX10 := Lib.hid (HX9.out.below (alloc_below w9 (.cells #[.int .u8 k1, .int .u16 k2, .int .u32 k3, .int .u64 k4, .string ks] 40)))
      have HY10 := Lib.hid (HY9.out.below (alloc_below w9 (.cells #[.int .u8 k1, .int .u16 k2, .int .u32 k3, .int .u64 k4, .string ks] 40)))
      clear HX9 HY9 HK9
      generalize (w9.alloc (.cells #[.int .u8 k1, .int .u16 k2, .int .u32 k3, .int .u64 k4, .string ks] 40)) = W10 at HK10 HX10 HY10 ⊢
      generalize w9.heap.size = b at HK10 ⊢
      generalize Sl.frE N = r1
      obtain ⟨c0, c1, c2, c3, c4⟩ := HK10.out.left.left.left.left.five
      go_upto_region 10 with (first
        | (go_at_call 11; (with_reducible refine (HOF1.out _).mono ?_); rintro e w11 ⟨vm, rfl, hm, hb11⟩; obtain ⟨m1, m2, m3, m4, m5, m6, hmv⟩ := hm.form; have HMV := Lib.hid hmv; have HM := Lib.hid hm; have HX11 := Lib.hid (HX10.out.below hb11); have HY11 := Lib.hid (HY10.out.below hb11); have HK11 := Lib.hid (HK10.out.step (Nat.le_refl _) hb11); clear hm hb11; subst hmv))
      clear HK10 HX10 HY10 HOF1 c0 c1 c2 c3 c4
      have hmfx : ∃ mf, M.leaf = mf := ⟨_, rfl⟩
      obtain ⟨mf, hmf⟩ := hmfx
      have HMF := Lib.hid hmf
      rw [hmf] at HM
      have HK12 := Lib.hid (HK11.out.more (Nat.le_refl _) #[.bool mf, .slice m1 m2 m3, .slice m4 m5 m6] 32)
      have HX12 := Lib.hid (HX11.out.below (alloc_below w11 (.cells #[.bool mf, .slice m1 m2 m3, .slice m4 m5 m6] 32)))
      have HY12 := Lib.hid (HY11.out.below (alloc_below w11 (.cells #[.bool mf, .slice m1 m2 m3, .slice m4 m5 m6] 32)))
      have HM12 := Lib.hid (HM.out.below (alloc_below w11 (.cells #[.bool mf, .slice m1 m2 m3, .slice m4 m5 m6] 32)))
      rw [hmf]
      clear hmf HX11 HY11 HM HMV HK11
      generalize (w11.alloc (.cells #[.bool mf, .slice m1 m2 m3, .slice m4 m5 m6] 32)) = W12 at HK12 HX12 HY12 HM12 ⊢
      generalize w11.heap.size = m at HK12 ⊢
      obtain ⟨c0, c1, c2, c3, c4⟩ := HK12.out.left.left.left.left.left.five
      go_upto_region 11 with (first
        | (go_at_call 12; (with_reducible refine (HOF2.out _).mono ?_); rintro e w13 ⟨vp, rfl, hp, hb13⟩; obtain ⟨q1, q2, q3, hpv⟩ := hp.form; rw [show (Sl.toR M).leaf = mf from HMF.out] at hpv; subst hpv; have HP := Lib.hid hp; have HX13 := Lib.hid (HX12.out.below hb13); have HY13 := Lib.hid (HY12.out.below hb13); have HM13 := Lib.hid (HM12.out.below hb13); have HK13 := Lib.hid (HK12.out.step (Nat.le_refl _) hb13); clear hp hb13))
      clear HK12 HX12 HY12 HM12 HOF2 c0 c1 c2 c3 c4
      have HK14 := Lib.hid (HK13.out.more (Nat.le_refl _) #[.bool mf, .slice q1 q2 q3] 35)
      have HX14 := Lib.hid (HX13.out.below (alloc_below w13 (.cells #[.bool mf, .slice q1 q2 q3] 35)))
      have HY14 := Lib.hid (HY13.out.below (alloc_below w13 (.cells #[.bool mf, .slice q1 q2 q3] 35)))
      have HM14 := Lib.hid (HM13.out.below (alloc_below w13 (.cells #[.bool mf, .slice q1 q2 q3] 35)))
      have HP14 := Lib.hid (HP.out.below (alloc_below w13 (.cells #[.bool mf, .slice q1 q2 q3] 35)))
      clear HX13 HY13 HM13 HP HK13
      generalize (w13.alloc (.cells #[.bool mf, .slice q1 q2 q3] 35)) = W14 at HK14 HX14 HY14 HM14 HP14 ⊢
      generalize w13.heap.size = o at HK14 ⊢
      have HNDO := Lib.hid (NdOk.mk (by have := PA.out.1; omega) (by have := PA.out.2; omega) PO.out.1 PO.out.2 : NdOk N)
      have HW14 := Lib.hid HK14.out.below
      have HS1 := Lib.hid (fun W (hW : Below W14.heap.size W14 W) => lsame_any _ _ M W (HM14.out.below hW) (HP14.out.below hW) (by have := HOFc.out; omega) (by have := HOFk.out; omega))
      have HSZ := Lib.hid (fun W (hW : Below W14.heap.size W14 W) => nSize_any _ N W (HX14.out.below hW) HNDO.out)
      have HRZ := Lib.hid (fun W (hW : Below W14.heap.size W14 W) => rSize_any _ N W (HY14.out.below hW) (by have := Sl.lim_toR N 400 PA.out; omega) PR.out)
      have HFT := Lib.hid (fun W (hW : Below W14.heap.size W14 W) => nFits_any _ N W (HX14.out.below hW) HNDO.out)
      have HTH := Lib.hid (fun W (hW : Below W14.heap.size W14 W) => nThin_any _ N W (HX14.out.below hW) HNDO.out)
      have HSM := Lib.hid (fun W (hW : Below W14.heap.size W14 W) => nsame_any _ _ N W (HX14.out.below hW) (HX14.out.below hW) (by have := PA.out.1; omega) (by have := PA.out.2; omega))
      have HFX := Lib.hid (fun W (hW : Below W14.heap.size W14 W) => HFRX.out W (HW14.out.trans (hW.mono HW14.out.size)))
      have HNO := Lib.hid (fun W v (hv : NdV W v N') (hW : Below W14.heap.size W14 W) => nsame_not _ v N N' W (HX14.out.below hW) hv HPX.out)
      have hF : Hid (W14.drew.cell? ⟨p, 0, none⟩ = some (.bool lf) ∧ W14.drew.cell? ⟨p, 1, none⟩ = some (.slice x1 x2 x3) ∧ W14.drew.cell? ⟨p, 2, none⟩ = some (.slice x4 x5 x6) ∧ W14.drew.cell? ⟨q, 0, none⟩ = some (.bool lf) ∧ W14.drew.cell? ⟨q, 1, none⟩ = some (.slice y1 y2 y3) ∧ W14.drew.cell? ⟨a, 0, none⟩ = some (.int .u8 k1) ∧ W14.drew.cell? ⟨a, 1, none⟩ = some (.int .u16 k2) ∧ W14.drew.cell? ⟨a, 2, none⟩ = some (.int .u32 k3) ∧ W14.drew.cell? ⟨a, 3, none⟩ = some (.int .u64 k4) ∧ W14.drew.cell? ⟨a, 4, none⟩ = some (.string ks) ∧ W14.drew.cell? ⟨b, 0, none⟩ = some (.int .u8 k1) ∧ W14.drew.cell? ⟨b, 1, none⟩ = some (.int .u16 k2) ∧ W14.drew.cell? ⟨b, 2, none⟩ = some (.int .u32 k3) ∧ W14.drew.cell? ⟨b, 3, none⟩ = some (.int .u64 k4) ∧ W14.drew.cell? ⟨b, 4, none⟩ = some (.string ks) ∧ W14.drew.cell? ⟨m, 0, none⟩ = some (.bool mf) ∧ W14.drew.cell? ⟨m, 1, none⟩ = some (.slice m1 m2 m3) ∧ W14.drew.cell? ⟨m, 2, none⟩ = some (.slice m4 m5 m6) ∧ W14.drew.cell? ⟨o, 0, none⟩ = some (.bool mf) ∧ W14.drew.cell? ⟨o, 1, none⟩ = some (.slice q1 q2 q3) ∧ Below W14.heap.size W14 W14.drew) := by
        obtain ⟨⟨z0, z1, z2⟩, _⟩ := HK14.out.left.left.left.left.left.right.three
        obtain ⟨⟨z3, z4⟩, _⟩ := HK14.out.left.left.left.left.right.two
        obtain ⟨z5, z6, z7, z8, z9⟩ := HK14.out.left.left.left.right.five
        obtain ⟨y0, y1, y2, y3, y4⟩ := HK14.out.left.left.right.five
        obtain ⟨⟨y5, y6, y7⟩, _⟩ := HK14.out.left.right.three
        obtain ⟨⟨y8, y9⟩, _⟩ := HK14.out.right.two
        exact ⟨z0, z1, z2, z3, z4, z5, z6, z7, z8, z9, y0, y1, y2, y3, y4, y5, y6, y7, y8, y9, (Below.refl _ _).drew⟩
      clear HK14 HX14 HY14 HM14 HP14 PO PR HPL HPX HFRX HOFc HOFk HMF HNDO
      generalize Sl.ndSum N = z at *
      go_region_held3 (fun w' => w'.cell? ⟨p, 0, none⟩ = some (.bool lf) ∧ w'.cell? ⟨p, 1, none⟩ = some (.slice x1 x2 x3) ∧ w'.cell? ⟨p, 2, none⟩ = some (.slice x4 x5 x6) ∧ w'.cell? ⟨q, 0, none⟩ = some (.bool lf) ∧ w'.cell? ⟨q, 1, none⟩ = some (.slice y1 y2 y3) ∧ w'.cell? ⟨a, 0, none⟩ = some (.int .u8 k1) ∧ w'.cell? ⟨a, 1, none⟩ = some (.int .u16 k2) ∧ w'.cell? ⟨a, 2, none⟩ = some (.int .u32 k3) ∧ w'.cell? ⟨a, 3, none⟩ = some (.int .u64 k4) ∧ w'.cell? ⟨a, 4, none⟩ = some (.string ks) ∧ w'.cell? ⟨b, 0, none⟩ = some (.int .u8 k1) ∧ w'.cell? ⟨b, 1, none⟩ = some (.int .u16 k2) ∧ w'.cell? ⟨b, 2, none⟩ = some (.int .u32 k3) ∧ w'.cell? ⟨b, 3, none⟩ = some (.int .u64 k4) ∧ w'.cell? ⟨b, 4, none⟩ = some (.string ks) ∧ w'.cell? ⟨m, 0, none⟩ = some (.bool mf) ∧ w'.cell? ⟨m, 1, none⟩ = some (.slice m1 m2 m3) ∧ w'.cell? ⟨m, 2, none⟩ = some (.slice m4 m5 m6) ∧ w'.cell? ⟨o, 0, none⟩ = some (.bool mf) ∧ w'.cell? ⟨o, 1, none⟩ = some (.slice q1 q2 q3) ∧ Below W14.heap.size W14 w')
        ((first | assumption | exact step20 (Nat.le_refl _) ‹_› hb | exact hF.out))
        (first
        | (go_at_call 18; (with_reducible refine (HNO.out _ _ HN9.out (last20 (by assumption))).mono ?_); rintro e w19 ⟨rfl, hb⟩)
        | (go_at_call 7; (with_reducible refine (HFX.out _ (last20 (by assumption))).mono ?_); rintro e w18 ⟨vn, rfl, hn, hb⟩; have HN9 := Lib.hid hn; clear hn)
        | (go_at_call 18; (with_reducible refine (HSM.out _ (last20 (by assumption))).mono ?_); rintro e w17 ⟨rfl, hb⟩)
        | (go_at_call 17; (with_reducible refine (HTH.out _ (last20 (by assumption))).mono ?_); rintro e w16 ⟨rfl, hb⟩)
        | (go_at_call 16; (with_reducible refine (HFT.out _ (last20 (by assumption))).mono ?_); rintro e w15 ⟨rfl, hb⟩)
        | (go_at_call 15; (with_reducible refine (HRZ.out _ (last20 (by assumption))).mono ?_); rintro e w15 ⟨rfl, hb⟩)
        | (go_at_call 14; (with_reducible refine (HSZ.out _ (last20 (by assumption))).mono ?_); rintro e w15 ⟨rfl, hb⟩)
        | (go_at_call 13; (with_reducible refine (HS1.out _ (last20 (by assumption))).mono ?_); rintro e w15 ⟨rfl, hb⟩))
      rename_i hS
      have HB := Lib.hid (last20 hS)
      clear hS
      go_wp2
      go_ret
      exact ⟨rfl, HW14.out.trans (HB.out.mono HW14.out.size)⟩
  · have HK2 := Lib.hid (HK1.out.step (Nat.le_refl _) hb2)
    go_wp2
    go_ret
    exact ⟨rfl, HK2.out.below⟩
end Go.Proofs.YtemfbkelenaaeaaGreat
/- A row of cells that is handed in, as the walk takes it. -/
namespace Go.Proofs.YtemfbkelenaaeaaGreat
open Go.ChangeShapes Go.WideShapes Go.ChangeAt Go.RowKit Go.Deep
open Sl (Cl Kd)
theorem cells42 : Tryz.prog.cellsOf 52 = 4 := by kernel_rfl
theorem cellsS : Tryz.prog.cellsOf 9 = 1 ∧ Tryz.prog.cellsOf 23 = 1 := ⟨by kernel_rfl, by kernel_rfl⟩
instance : Inhabited Cl := ⟨⟨[], [], 0, 0⟩⟩
theorem list4 {α : Type} (l : List α) (h : l.length = 4) : ∃ a b c d, l = [a, b, c, d] := by
  rcases l with _ | ⟨a, _ | ⟨b, _ | ⟨c, _ | ⟨d, _ | ⟨e, l⟩⟩⟩⟩⟩
  all_goals first | (cases h; done) | exact ⟨_, _, _, _, rfl⟩ | (simp at h)
set_option maxRecDepth 100000 in
theorem open_cells {H : Type} {enc : TypeId × Value → H} {W : World} {r : Reach} {b0 b1 : Nat} {sp : Nat → Bool} {held : Bool} {v : Value} {d : DataW H} {p : List MemPlace}
    (hv : Value.okWide Tryz.prog W r b0 22 v) (h : DataW.Trod enc Tryz.prog W b1 sp held 22 v d p) :
    ∃ l : List Cl, l.length ≤ maxLen ∧ (∀ x ∈ l, okC x) ∧ SlC W v l := by
  obtain ⟨a0, len, cap, rfl⟩ := okWide_slice Tryz.underlying22 hv
  obtain ⟨fuel, hf⟩ := h
  rcases open_slice Tryz.underlying22 hf with hcs | ⟨a, len', cap', m, n, D, Pl, hcs, _, hl, hm, hz, _, hcell⟩
  · have hcs := hcs.1
    simp [Value.cells] at hcs
    obtain ⟨rfl, rfl, rfl⟩ := hcs
    exact ⟨[], Nat.zero_le _, fun p hp => by simp at hp, none, 0, 0, 0, rfl, .inl rfl, fun j p hj => by simp at hj⟩
  · simp [Value.cells] at hcs
    obtain ⟨rfl, rfl, rfl⟩ := hcs
    have hlen : len ≤ m := by rw [hz]; split <;> omega
    have each : ∀ i, i < len → ∃ x : Cl, okC x ∧ W.cell? (a.add (i * 4)) = some (.string (str x.key)) ∧ W.cell? (a.add (i * 4 + 1)) = some (.string (str x.val)) ∧ W.cell? (a.add (i * 4 + 2)) = some (.int .u32 x.chain) ∧ W.cell? (a.add (i * 4 + 3)) = some (.int .u32 x.long) := by
      intro i hi
      obtain ⟨cs', h1, h2⟩ := hcell i (by omega)
      rw [cells42] at h1
      obtain ⟨_, hlen', hcc⟩ := World.cells?_some h1
      obtain ⟨xs, k, hk, hxy, _, hxl, hf'⟩ := DataW.trod_struct Tryz.underlying52 h2
      obtain ⟨v0, v1, v2, v3, rfl⟩ := list4 cs' hlen'
      obtain ⟨y0, y1, y2, y3, rfl⟩ := list4 xs hxl
      have g0 : DataW.trod enc Tryz.prog W b1 sp held k 9 ([v0, v1, v2, v3].drop 0 |>.take (Tryz.prog.cellsOf 9)) = some y0 := hf' 0 _ rfl
      have g1 : DataW.trod enc Tryz.prog W b1 sp held k 9 ([v0, v1, v2, v3].drop 1 |>.take (Tryz.prog.cellsOf 9)) = some y1 := hf' 1 _ rfl
      have g2 : DataW.trod enc Tryz.prog W b1 sp held k 23 ([v0, v1, v2, v3].drop 2 |>.take (Tryz.prog.cellsOf 23)) = some y2 := hf' 2 _ rfl
      have g3 : DataW.trod enc Tryz.prog W b1 sp held k 23 ([v0, v1, v2, v3].drop 3 |>.take (Tryz.prog.cellsOf 23)) = some y3 := hf' 3 _ rfl
      rw [cellsS.1] at g0 g1
      rw [cellsS.2] at g2 g3
      obtain ⟨s, hs, _, _⟩ := DataW.trod_string Tryz.underlying9 g0
      obtain ⟨t, ht, _, _⟩ := DataW.trod_string Tryz.underlying9 g1
      obtain ⟨q, hq, _, wq⟩ := DataW.trod_int Tryz.underlying23 g2
      obtain ⟨u, hu, _, wu⟩ := DataW.trod_int Tryz.underlying23 g3
      have c0 := hcc 0 (by omega)
      have c1 := hcc 1 (by omega)
      have c2 := hcc 2 (by omega)
      have c3 := hcc 3 (by omega)
      rw [add_add] at c0 c1 c2 c3
      have hs' : v0 = .string s := by simpa using hs
      have ht' : v1 = .string t := by simpa using ht
      have hq' : v2 = .int .u32 q := by simpa using hq
      have hu' : v3 = .int .u32 u := by simpa using hu
      obtain ⟨h3, h4⟩ := bounds_u32 wq
      obtain ⟨h5, h6⟩ := bounds_u32 wu
      obtain ⟨N, rfl⟩ := Int.eq_ofNat_of_zero_le h3
      obtain ⟨M, rfl⟩ := Int.eq_ofNat_of_zero_le h5
      refine ⟨⟨s.data.toList, t.data.toList, N, M⟩, ⟨by show N < _; omega, by show M < _; omega⟩, ?_, ?_, ?_, ?_⟩
      · rw [str_eq, ← hs']; simpa using c0
      · rw [str_eq, ← ht']; simpa using c1
      · rw [← hq']; simpa using c2
      · rw [← hu']; simpa using c3
    by_cases h0 : len = 0
    · subst h0
      exact ⟨[], Nat.zero_le _, fun p hp => by simp at hp, some a, 0, 0, cap, rfl, .inl rfl, fun j p hj => by simp at hj⟩
    · obtain ⟨b, off, spot⟩ := a
      obtain ⟨p0, _, hsp, _⟩ := each 0 (by omega)
      have hspot : spot = none := by simpa [Addr.add] using World.cell?_spot hsp
      subst hspot
      obtain ⟨f, hfx⟩ := choose_lt each
      refine ⟨(List.range len).map f, by simp; omega, ?_, some ⟨b, off, none⟩, b, off, cap, by simp, .inr rfl, fun j p hj => ?_⟩
      · intro p hp
        obtain ⟨i, hi, rfl⟩ := List.mem_map.1 hp
        exact (hfx i (List.mem_range.1 hi)).1
      · have hjl : j < len := by
          have := (List.getElem?_eq_some_iff.1 hj).1
          simpa using this
        simp [hjl] at hj
        subst hj
        obtain ⟨_, c0, c1, c2, c3⟩ := hfx j hjl
        rw [add_plain] at c0 c1 c2 c3
        refine ⟨c0, ?_, ?_, ?_⟩
        · rw [Nat.add_assoc]; exact c1
        · rw [Nat.add_assoc]; exact c2
        · rw [Nat.add_assoc]; exact c3
end Go.Proofs.YtemfbkelenaaeaaGreat
/- The arguments of the laws of nodes, opened. -/
namespace Go.Proofs.YtemfbkelenaaeaaGreat
open Go.RowKit Go.ChangeShapes Go.WideShapes Go.Deep
open Sl (Cl Kd)
theorem open_cap {H : Type} {enc : TypeId × Value → H} {W : World} {r : Reach} {b0 b1 : Nat} {sp : Nat → Bool} {held : Bool} {v : Value} {d : DataW H} {p : List MemPlace}
    (hv : Value.okWide Tryz.prog W r b0 22 v) (h : DataW.Trod enc Tryz.prog W b1 sp held 22 v d p) : Cap v := by
  obtain ⟨a0, len, cap, rfl⟩ := okWide_slice Tryz.underlying22 hv
  obtain ⟨fuel, hf⟩ := h
  rcases open_slice Tryz.underlying22 hf with hcs | ⟨a, len', cap', m, n, D, Pl, hcs, _, hl, hm, _⟩
  · have hcs := hcs.1
    simp [Value.cells] at hcs
    obtain ⟨rfl, rfl, rfl⟩ := hcs
    exact ⟨none, 0, 0, Nat.le_refl _, Nat.zero_le _, fun _ => rfl⟩
  · simp [Value.cells] at hcs
    obtain ⟨rfl, rfl, rfl⟩ := hcs
    exact ⟨some a, len, cap, hl, hm, fun h => by cases h⟩
end Go.Proofs.YtemfbkelenaaeaaGreat
/- A frame that is handed in, opened. -/
namespace Go.Proofs.YtemfbkelenaaeaaGreat
open Go.Joins Go.ChangeShapes Go.WideShapes Go.ChangeAt Go.RowKit Go.Deep
theorem cellsFr : Tryz.prog.cellsOf 27 = 5 := by kernel_rfl
theorem cellsE : Tryz.prog.cellsOf 5 = 1 ∧ Tryz.prog.cellsOf 25 = 1 ∧ Tryz.prog.cellsOf 23 = 1 ∧ Tryz.prog.cellsOf 24 = 1 ∧ Tryz.prog.cellsOf 9 = 1 := ⟨by kernel_rfl, by kernel_rfl, by kernel_rfl, by kernel_rfl, by kernel_rfl⟩
theorem list5 {α : Type} (l : List α) (h : l.length = 5) : ∃ a b c d e, l = [a, b, c, d, e] := by
  rcases l with _ | ⟨a, _ | ⟨b, _ | ⟨c, _ | ⟨d, _ | ⟨e, _ | ⟨f, l⟩⟩⟩⟩⟩⟩
  all_goals first | (cases h; done) | exact ⟨_, _, _, _, _, rfl⟩ | (simp at h)
theorem bounds_u16 {q : Int} (h : (Lit.int .u16 q).wf = true) : 0 ≤ q ∧ q < 65536 := by
  simp [Lit.wf, IntKind.min, IntKind.max, IntKind.signed, IntKind.bits] at h
  omega
set_option maxRecDepth 100000 in
theorem open_frame {H : Type} {enc : TypeId × Value → H} {W : World} {r : Reach} {b0 b1 : Nat} {sp : Nat → Bool} {held : Bool} {v : Value} {d : DataW H} {p : List MemPlace}
    (hv : Value.okWide Tryz.prog W r b0 27 v) (h : DataW.Trod enc Tryz.prog W b1 sp held 27 v d p) :
    ∃ (ka kb kc kd : Int) (s : List UInt8), v = .agg #[.int .u8 ka, .int .u16 kb, .int .u32 kc, .int .u64 kd, .string (str s)] ∧ 0 ≤ kb ∧ kb < 65536 := by
  obtain ⟨cs, rfl, hsz⟩ := okWide_struct Tryz.underlying27 hv
  obtain ⟨fuel, hf⟩ := h
  obtain ⟨xs, k, hk, hxy, _, hxl, hf'⟩ := DataW.trod_struct Tryz.underlying27 hf
  obtain ⟨l⟩ := cs
  have hl : l.length = 5 := by
    have := hsz.trans cellsFr
    simpa using this
  obtain ⟨v0, v1, v2, v3, v4, rfl⟩ := list5 l hl
  obtain ⟨y0, y1, y2, y3, y4, rfl⟩ := list5 xs hxl
  have g0 : DataW.trod enc Tryz.prog W b1 sp held k 5 ([v0, v1, v2, v3, v4].drop 0 |>.take (Tryz.prog.cellsOf 5)) = some y0 := hf' 0 _ rfl
  have g1 : DataW.trod enc Tryz.prog W b1 sp held k 25 ([v0, v1, v2, v3, v4].drop 1 |>.take (Tryz.prog.cellsOf 25)) = some y1 := hf' 1 _ rfl
  have g2 : DataW.trod enc Tryz.prog W b1 sp held k 23 ([v0, v1, v2, v3, v4].drop 2 |>.take (Tryz.prog.cellsOf 23)) = some y2 := hf' 2 _ rfl
  have g3 : DataW.trod enc Tryz.prog W b1 sp held k 24 ([v0, v1, v2, v3, v4].drop 3 |>.take (Tryz.prog.cellsOf 24)) = some y3 := hf' 3 _ rfl
  have g4 : DataW.trod enc Tryz.prog W b1 sp held k 9 ([v0, v1, v2, v3, v4].drop 4 |>.take (Tryz.prog.cellsOf 9)) = some y4 := hf' 4 _ rfl
  rw [cellsE.1] at g0
  rw [cellsE.2.1] at g1
  rw [cellsE.2.2.1] at g2
  rw [cellsE.2.2.2.1] at g3
  rw [cellsE.2.2.2.2] at g4
  obtain ⟨q0, h0, _, w0⟩ := DataW.trod_int Tryz.underlying5 g0
  obtain ⟨q1, h1, _, w1⟩ := DataW.trod_int Tryz.underlying25 g1
  obtain ⟨q2, h2, _, w2⟩ := DataW.trod_int Tryz.underlying23 g2
  obtain ⟨q3, h3, _, w3⟩ := DataW.trod_int Tryz.underlying24 g3
  obtain ⟨s, h4, _, _⟩ := DataW.trod_string Tryz.underlying9 g4
  have e0 : v0 = .int .u8 q0 := by simpa using h0
  have e1 : v1 = .int .u16 q1 := by simpa using h1
  have e2 : v2 = .int .u32 q2 := by simpa using h2
  have e3 : v3 = .int .u64 q3 := by simpa using h3
  have e4 : v4 = .string s := by simpa using h4
  obtain ⟨k0, k1⟩ := bounds_u16 w1
  exact ⟨q0, q1, q2, q3, s.data.toList, by rw [e0, e1, e2, e3, e4, str_eq], k0, k1⟩
end Go.Proofs.YtemfbkelenaaeaaGreat
namespace Go.Proofs.YtemfbkelenaaeaaGreat.nodeFrames
open Go.ChangeShapes Go.WideShapes Go.ChangeAt Go.RowKit
open Go.ChangeMaps (open_string shut_string)
theorem own : ownKnob Tryz.prog.godebug = none := by kernel_rfl
theorem laidOut : laidOutB Tryz.prog = true := by kernel_rfl
set_option maxRecDepth 100000 in
theorem lifted (os : Os) (started : os.Started) (H : Type) (enc : TypeId × Value → H) :
    ReturnsInHanded {} Tryz.checked os 3 .any (Rows.nodeFramesSpec.pre6 enc Tryz.prog Tryz.f3 Rows.nodeFramesRow.domain false) (Rows.nodeFramesSpec.post enc Tryz.prog Tryz.f3 false true false false) := by
  refine returnsInHanded_of_change (C := Tryz.checked) own started (by kernel_rfl) Tryz.func3
    (ChangeSpec.witness6 (enc := enc) (C := Tryz.checked) false ⟨#[], #[.bool false, .slice none 0 0, .int .u32 0, .int .u64 0, .agg #[.int .u8 0, .int .u16 0, .int .u32 0, .int .u64 0, .string ByteArray.empty]], []⟩ 8 (by kernel_rfl) (by kernel_rfl) (by kernel_rfl) (by kernel_rfl)) ?_
  intro W base args ds gs before hval0 hW hcnd _
  have hval : ∀ (j : Nat) t v, Tryz.f3.params[j]? = some t → args[j]? = some v → Value.okWide Tryz.prog W .any base t v := hval0
  have hW' := hW
  obtain ⟨p, q, hA0, hV, rfl, hfz, hnd⟩ := hW
  have hA : DataW.TrodAll enc Tryz.prog W 0 (fun _ => true) true Tryz.f3.params.toList args.toList ds p := hA0
  rw [Tryz.params3] at hA hval
  obtain ⟨v0, vs0, d0, ds0, p0, q0, hargs, rfl, rfl, h0, r0⟩ := trodAll_cons hA
  obtain ⟨v1, vs1, d1, ds1, p1, q1, rfl, rfl, rfl, h1, r1⟩ := trodAll_cons r0
  obtain ⟨v2, vs2, d2, ds2, p2, q2, rfl, rfl, rfl, h2, r2⟩ := trodAll_cons r1
  obtain ⟨v3, vs3, d3, ds3, p3, q3, rfl, rfl, rfl, h3, r3⟩ := trodAll_cons r2
  obtain ⟨v4, vs4, d4, ds4, p4, q4, rfl, rfl, rfl, h4, r4⟩ := trodAll_cons r3
  obtain ⟨rfl, rfl, rfl⟩ := trodAll_nil r4
  obtain rfl : args = #[v0, v1, v2, v3, v4] := by cases args; simp_all
  obtain ⟨rfl, rfl⟩ := trodVars_none hV
  have k0 := h0
  have lt0 : ∀ x ∈ p0, x.block < W.heap.size := by obtain ⟨m, hm⟩ := k0; exact DataW.trod_lt m _ _ _ hm
  have k1 := h1
  have lt1 : ∀ x ∈ p1, x.block < W.heap.size := by obtain ⟨m, hm⟩ := k1; exact DataW.trod_lt m _ _ _ hm
  have k2 := h2
  have lt2 : ∀ x ∈ p2, x.block < W.heap.size := by obtain ⟨m, hm⟩ := k2; exact DataW.trod_lt m _ _ _ hm
  have k3 := h3
  have lt3 : ∀ x ∈ p3, x.block < W.heap.size := by obtain ⟨m, hm⟩ := k3; exact DataW.trod_lt m _ _ _ hm
  have k4 := h4
  have lt4 : ∀ x ∈ p4, x.block < W.heap.size := by obtain ⟨m, hm⟩ := k4; exact DataW.trod_lt m _ _ _ hm
  obtain ⟨a0, rfl, _, _⟩ := open_bool Tryz.underlying4 (hval 0 4 v0 rfl rfl) h0
  have hv1 := hval 1 22 v1 rfl rfl
  obtain ⟨a2, rfl, _, _, w2⟩ := open_int Tryz.underlying23 (hval 2 23 v2 rfl rfl) h2
  obtain ⟨a3, rfl, _, _, w3⟩ := open_int Tryz.underlying24 (hval 3 24 v3 rfl rfl) h3
  have hv4 := hval 4 27 v4 rfl rfl
  obtain ⟨l, hm, hl, hs⟩ := open_cells hv1 h1
  have hcp := open_cap hv1 h1
  obtain ⟨ka, kb, kc, kd, s, rfl, kb0, kb1⟩ := open_frame hv4 h4
  clear hA0 hval0
  refine ((fun _ => frames_walk a0 v1 l a2 a3 ka kb kc kd s hm hl kb0 kb1 W hs hcp) W).mono fun e W' ⟨he, bel⟩ => ?_
  subst he
  exact ⟨_, rfl, _, _, _, [], _, [], hW', trodAll_mk1 (shut_bool Tryz.underlying4 _), (trodAll_cons_mk (Below.trod laidOut (by kernel_rfl) (of_decide_eq_true (by kernel_rfl)) k0 bel lt0) (trodAll_cons_mk (Below.trod laidOut (by kernel_rfl) (of_decide_eq_true (by kernel_rfl)) k1 bel lt1) (trodAll_cons_mk (Below.trod laidOut (by kernel_rfl) (of_decide_eq_true (by kernel_rfl)) k2 bel lt2) (trodAll_cons_mk (Below.trod laidOut (by kernel_rfl) (of_decide_eq_true (by kernel_rfl)) k3 bel lt3) (trodAll_cons_mk (Below.trod laidOut (by kernel_rfl) (of_decide_eq_true (by kernel_rfl)) k4 bel lt4) trodAll_mk0))))), rfl, bel.frame _, fun h => by cases h⟩
theorem over : Rows.nodeFramesRow.holds Tryz.pinned (OpenSpec.ofChange Rows.nodeFramesSpec) :=
  OpenClaim.holds_of_wide 3 Tryz.f3 rfl rfl rfl rfl rfl rfl rfl ⟨rfl, rfl, rfl, rfl, rfl⟩ rfl rfl rfl rfl rfl (by kernel_rfl) Tryz.func3 (by kernel_rfl)
    (of_decide_eq_true (by kernel_rfl)) (by unfold Func.isWrapper; first | (rw [if_pos (by decide +kernel)]; kernel_rfl) | (rw [if_neg (by decide +kernel)]; exact ⟨rfl, rfl⟩))
    (fun os started H enc _ => lifted os started H enc)
theorem proved : Rows.NodeFramesSaid := over
#print axioms proved
end Go.Proofs.YtemfbkelenaaeaaGreat.nodeFrames
