/- The walk of the law NodeSplits. -/
import Derived.Test.YtilccpklbaglpaaNAwake
import Derived.Test.YtilccpklbaglpaaSteps3
import Derived.Deep.DeepCutAuto
import Derived.Deep.RegionHeld3
set_option maxRecDepth 100000
set_option maxHeartbeats 4000000
set_option linter.unusedVariables false
namespace Go.Proofs.Ytilccpklbaglpaa
open Go.RowKit
open Sl (Cl Kd Nd Rn)
theorem okC_key (l : List Cl) (hl : ∀ x ∈ l, okC x) (lf : Bool) : (∀ x ∈ (Sl.fromN lf l).cs, okC x) ∧ (∀ x ∈ (Sl.fromN lf l).ks, okK x) := by
  cases lf
  · refine ⟨fun x hx => by simp [Sl.fromN] at hx, fun x hx => ?_⟩
    obtain ⟨y, hy, rfl⟩ := List.mem_map.1 (show x ∈ l.map toK from hx)
    exact (hl y hy).1
  · exact ⟨hl, fun x hx => by simp [Sl.fromN] at hx⟩
theorem ok_toR (l : List Cl) (hl : ∀ x ∈ l, okC x) (hs : ∀ x ∈ l, x.val.length ≤ 500) (lf : Bool) : ∀ x ∈ (Sl.toR (Sl.fromN lf l)).l, okC x ∧ x.val.length ≤ 60000 := by
  cases lf
  · intro x hx
    obtain ⟨y, hy, rfl⟩ := List.mem_map.1 (show x ∈ (l.map toK).map toC from hx)
    obtain ⟨z, hz, rfl⟩ := List.mem_map.1 hy
    exact ⟨⟨(hl z hz).1, show 0 < 4294967296 by decide⟩, show ([] : List UInt8).length ≤ 60000 by decide⟩
  · intro x hx
    exact ⟨hl x hx, by have := hs x hx; omega⟩
theorem NdV.form {w : World} {v : Value} {n : Nd} (h : NdV w v n) : ∃ a1 n1 c1 a2 n2 c2, v = .agg #[.bool n.leaf, .slice a1 n1 c1, .slice a2 n2 c2] := by
  obtain ⟨vc, vk, rfl, _, hc, _, hk⟩ := h
  obtain ⟨a1, n1, c1, _, _, _⟩ := hc
  obtain ⟨a2, n2, c2, _, _, _⟩ := hk
  exact ⟨a1, n1, c1, a2, n2, c2, rfl⟩
theorem RnV.form {w : World} {v : Value} {n : Rn} (h : RnV w v n) : ∃ a1 n1 c1, v = .agg #[.bool n.leaf, .slice a1 n1 c1] := by
  obtain ⟨vc, rfl, _, hc⟩ := h
  obtain ⟨a1, n1, c1, _, _, _⟩ := hc
  exact ⟨a1, n1, c1, rfl⟩
theorem two0 (w : World) (A B : Array Value) (S T : TypeId) (i : Nat) : ((w.alloc (.cells A S)).alloc (.cells B T)).cell? ⟨w.heap.size, i, none⟩ = A[i]? :=
  (((Below.refl _ (w.alloc (.cells A S))).alloc (Nat.le_refl _) (.cells B T)).cell (p := ⟨w.heap.size, i, none⟩) (show w.heap.size < _ by simp)).trans (World.cell?_alloc_new w A S i)
theorem two1 (w : World) (A B : Array Value) (S T : TypeId) (i : Nat) : ((w.alloc (.cells A S)).alloc (.cells B T)).cell? ⟨w.heap.size + 1, i, none⟩ = B[i]? := by
  have := World.cell?_alloc_new (w.alloc (.cells A S)) B T i
  rwa [show (w.alloc (.cells A S)).heap.size = w.heap.size + 1 by simp] at this
theorem twoB (w : World) (A B : Obj) : Below w.heap.size w ((w.alloc A).alloc B) := ((Below.refl _ _).alloc (Nat.le_refl _) _).alloc (by simp) _
theorem leaf_sp (n : Nd) : (Sl.spA n).leaf = n.leaf ∧ (Sl.spB n).leaf = n.leaf := by
  obtain ⟨lf, cs, ks⟩ := n
  cases lf <;> exact ⟨rfl, rfl⟩
theorem rsplit_any (v : Value) (n : Rn) (w : World) (hv : RnV w v n) (hll : n.l.length ≤ 100000) (hok : ∀ x ∈ n.l, okC x ∧ x.val.length ≤ 60000) : Calls Try.prog 28 #[v] w (SplitR n w) := by
  by_cases h : n.l.length < 2
  · exact rsplit_small v n w hv h
  · exact rsplit_big v n w hv (by omega) hll hok
theorem splits_walk (lf : Bool) (u v : Value) (l m : List Cl) (key : List UInt8) (hl0 : l.length ≤ maxLen) (hm0 : m.length ≤ maxLen) (hl : ∀ x ∈ l, okC x) (hm : ∀ x ∈ m, okC x) (w : World) (hu : SlC w u l) (hcu : Cap u) (hv : SlC w v m) (hcv : Cap v) :
    Calls Try.prog 5 #[.bool lf, u, v, .string (str key)] w fun e w' => e = .returned (.bool true) ∧ Below w.heap.size w w' := by
  have HUB : Hid (∀ W, Below w.heap.size w W → SlC W u l) := fun W hW => hu.below hW
  have HVB : Hid (∀ W, Below w.heap.size w W → SlC W v m) := fun W hW => hv.below hW
  have HF1 := Lib.hid (fun W hW => few_any u l hl0 W hW)
  have HF2 := Lib.hid (fun W hW => few_any v m hm0 W hW)
  have hks := str_size key
  go_enter Try.func5, Try.ntmps5
  go_wp2_with (first
    | (go_at_call 12; refine (nawake_any _).mono ?_; rintro e w1 ⟨rfl, hb1⟩)
    | (go_at_call 13; refine (HF1.out _ (HUB.out _ hb1)).mono ?_))
  rintro e w2 (⟨rfl, hfl, hb2⟩ | ⟨rfl, hb2⟩)
  · have HB2 := Lib.hid (below_step hb1 hb2)
    go_wp2_with (go_at_call 13; refine (HF2.out _ (HVB.out _ HB2.out)).mono ?_)
    rintro e w3 (⟨rfl, hfm, hb3⟩ | ⟨rfl, hb3⟩)
    · have HB3 := Lib.hid (below_step HB2.out hb3)
      by_cases hk : (300 : Int) < key.length
      · go_wp2
        go_ret
        exact ⟨rfl, HB3.out⟩
      · have hl4 : l.length ≤ 400 := hfl.1
        have hm4 : m.length ≤ 400 := hfm.1
        have HFR1 := Lib.hid (fun W (hW : Below w.heap.size w W) => from_any lf u l W (HUB.out W hW) hcu (by omega))
        have HFR2 := Lib.hid (fun W (hW : Below w.heap.size w W) => from_any lf v m W (HVB.out W hW) hcv (by omega))
        obtain ⟨uc, ul, uC, _, _, _⟩ := hcu
        have hul : ul = l.length := by obtain ⟨_, _, _, _, h, _⟩ := hu; simp at h; exact h.2.1
        subst hul
        obtain ⟨vc, vl, vC, _, _, _⟩ := hcv
        have PL : (Sl.fromN lf l).leaf = lf := by cases lf <;> rfl
        have PM : (Sl.fromN lf m).leaf = lf := by cases lf <;> rfl
        have HPL := Lib.hid PL
        have HPM := Lib.hid PM
        have PJ := Lib.hid (Sl.join_split lf l)
        have PA := Lib.hid (Sl.lim_from lf l 400 hl4)
        have PB := Lib.hid (Sl.lim_from lf m 400 hm4)
        have PO := Lib.hid (okC_key l hl lf)
        have PR := Lib.hid (ok_toR l hl (fun x hx => (hfl.2 x hx).2) lf)
        clear HF1 HF2 hb1 hb2 hb3 hfl hfm hl hm hl0 hm0 hu hv HUB HVB HB2
        generalize Sl.fromN lf l = N at *
        generalize Sl.fromN lf m = O at *
        go_upto_region 6 with (first
          | (go_at_call 15; with_reducible refine (HFR2.out _ HB4.out).mono ?_; rintro e w5 ⟨y, rfl, hy, hb5⟩; obtain ⟨y1, y2, y3, y4, y5, y6, rfl⟩ := hy.form; have HY := Lib.hid hy; have HX5 := Lib.hid (HX.out.below hb5); have HB5 := Lib.hid (below_step HB4.out hb5); clear hy hb5)
          | (go_at_call 15; with_reducible refine (HFR1.out _ HB3.out).mono ?_; rintro e w4 ⟨x, rfl, hx, hb4⟩; obtain ⟨x1, x2, x3, x4, x5, x6, rfl⟩ := hx.form; have HX := Lib.hid hx; have HB4 := Lib.hid (below_step HB3.out hb4); clear hx hb4))
        clear HX HB3 HB4 HFR1 HFR2
        rw [PL] at HX5
        rw [PM] at HY
        have HC6 : Hid (((w5.alloc (.cells #[.bool lf, .slice x1 x2 x3, .slice x4 x5 x6] 46)).alloc (.cells #[.bool lf, .slice y1 y2 y3, .slice y4 y5 y6] 46)).cell? ⟨w5.heap.size, 0, none⟩ = some (.bool lf) ∧ ((w5.alloc (.cells #[.bool lf, .slice x1 x2 x3, .slice x4 x5 x6] 46)).alloc (.cells #[.bool lf, .slice y1 y2 y3, .slice y4 y5 y6] 46)).cell? ⟨w5.heap.size, 1, none⟩ = some (.slice x1 x2 x3) ∧ ((w5.alloc (.cells #[.bool lf, .slice x1 x2 x3, .slice x4 x5 x6] 46)).alloc (.cells #[.bool lf, .slice y1 y2 y3, .slice y4 y5 y6] 46)).cell? ⟨w5.heap.size, 2, none⟩ = some (.slice x4 x5 x6) ∧ ((w5.alloc (.cells #[.bool lf, .slice x1 x2 x3, .slice x4 x5 x6] 46)).alloc (.cells #[.bool lf, .slice y1 y2 y3, .slice y4 y5 y6] 46)).cell? ⟨w5.heap.size + 1, 0, none⟩ = some (.bool lf) ∧ ((w5.alloc (.cells #[.bool lf, .slice x1 x2 x3, .slice x4 x5 x6] 46)).alloc (.cells #[.bool lf, .slice y1 y2 y3, .slice y4 y5 y6] 46)).cell? ⟨w5.heap.size + 1, 1, none⟩ = some (.slice y1 y2 y3) ∧ ((w5.alloc (.cells #[.bool lf, .slice x1 x2 x3, .slice x4 x5 x6] 46)).alloc (.cells #[.bool lf, .slice y1 y2 y3, .slice y4 y5 y6] 46)).cell? ⟨w5.heap.size + 1, 2, none⟩ = some (.slice y4 y5 y6) ∧ Below w.heap.size w ((w5.alloc (.cells #[.bool lf, .slice x1 x2 x3, .slice x4 x5 x6] 46)).alloc (.cells #[.bool lf, .slice y1 y2 y3, .slice y4 y5 y6] 46))) :=
          ⟨two0 _ _ _ _ _ 0, two0 _ _ _ _ _ 1, two0 _ _ _ _ _ 2, two1 _ _ _ _ _ 0, two1 _ _ _ _ _ 1, two1 _ _ _ _ _ 2, HB5.out.trans ((twoB _ _ _).mono HB5.out.size)⟩
        have HX6 := Lib.hid (HX5.out.below (twoB w5 (.cells #[.bool lf, .slice x1 x2 x3, .slice x4 x5 x6] 46) (.cells #[.bool lf, .slice y1 y2 y3, .slice y4 y5 y6] 46)))
        have HY6 := Lib.hid (HY.out.below (twoB w5 (.cells #[.bool lf, .slice x1 x2 x3, .slice x4 x5 x6] 46) (.cells #[.bool lf, .slice y1 y2 y3, .slice y4 y5 y6] 46)))
        clear HX5 HY HB5
        generalize ((w5.alloc (.cells #[.bool lf, .slice x1 x2 x3, .slice x4 x5 x6] 46)).alloc (.cells #[.bool lf, .slice y1 y2 y3, .slice y4 y5 y6] 46)) = W6 at HC6 HX6 HY6 ⊢
        generalize w5.heap.size = p at HC6 ⊢
        have HSP := Lib.hid (split_any _ N W6 HX6.out (by have := PA.out.1; omega) (by have := PA.out.2; omega) PO.out.1 PO.out.2)
        have k0 := HC6.out.1
        have k1 := HC6.out.2.1
        have k2 := HC6.out.2.2.1
        go_upto_region 7 with (go_at_call 27; refine HSP.out.mono ?_; rintro e w7 ⟨sa, sb, rfl, ha, hb, hb7⟩; obtain ⟨a1, a2, a3, a4, a5, a6, hav⟩ := ha.form; obtain ⟨b1, b2, b3, b4, b5, b6, hbv⟩ := hb.form; rw [(leaf_sp N).1, HPL.out] at hav; rw [(leaf_sp N).2, HPL.out] at hbv; subst hav hbv; have HA7 := Lib.hid ha; have HB7 := Lib.hid hb; have HC7 := Lib.hid (step6 (Nat.le_refl _) HC6.out hb7); have HX7 := Lib.hid (HX6.out.below hb7); have HY7 := Lib.hid (HY6.out.below hb7); clear ha hb hb7)
        clear HC6 HX6 HY6 HSP k0 k1 k2
        have HC8 : Hid (((w7.alloc (.cells #[.bool lf, .slice a1 a2 a3, .slice a4 a5 a6] 46)).alloc (.cells #[.bool lf, .slice b1 b2 b3, .slice b4 b5 b6] 46)).cell? ⟨p, 0, none⟩ = some (.bool lf) ∧ ((w7.alloc (.cells #[.bool lf, .slice a1 a2 a3, .slice a4 a5 a6] 46)).alloc (.cells #[.bool lf, .slice b1 b2 b3, .slice b4 b5 b6] 46)).cell? ⟨p, 1, none⟩ = some (.slice x1 x2 x3) ∧ ((w7.alloc (.cells #[.bool lf, .slice a1 a2 a3, .slice a4 a5 a6] 46)).alloc (.cells #[.bool lf, .slice b1 b2 b3, .slice b4 b5 b6] 46)).cell? ⟨p, 2, none⟩ = some (.slice x4 x5 x6) ∧ ((w7.alloc (.cells #[.bool lf, .slice a1 a2 a3, .slice a4 a5 a6] 46)).alloc (.cells #[.bool lf, .slice b1 b2 b3, .slice b4 b5 b6] 46)).cell? ⟨p + 1, 0, none⟩ = some (.bool lf) ∧ ((w7.alloc (.cells #[.bool lf, .slice a1 a2 a3, .slice a4 a5 a6] 46)).alloc (.cells #[.bool lf, .slice b1 b2 b3, .slice b4 b5 b6] 46)).cell? ⟨p + 1, 1, none⟩ = some (.slice y1 y2 y3) ∧ ((w7.alloc (.cells #[.bool lf, .slice a1 a2 a3, .slice a4 a5 a6] 46)).alloc (.cells #[.bool lf, .slice b1 b2 b3, .slice b4 b5 b6] 46)).cell? ⟨p + 1, 2, none⟩ = some (.slice y4 y5 y6) ∧ ((w7.alloc (.cells #[.bool lf, .slice a1 a2 a3, .slice a4 a5 a6] 46)).alloc (.cells #[.bool lf, .slice b1 b2 b3, .slice b4 b5 b6] 46)).cell? ⟨w7.heap.size, 0, none⟩ = some (.bool lf) ∧ ((w7.alloc (.cells #[.bool lf, .slice a1 a2 a3, .slice a4 a5 a6] 46)).alloc (.cells #[.bool lf, .slice b1 b2 b3, .slice b4 b5 b6] 46)).cell? ⟨w7.heap.size, 1, none⟩ = some (.slice a1 a2 a3) ∧ ((w7.alloc (.cells #[.bool lf, .slice a1 a2 a3, .slice a4 a5 a6] 46)).alloc (.cells #[.bool lf, .slice b1 b2 b3, .slice b4 b5 b6] 46)).cell? ⟨w7.heap.size, 2, none⟩ = some (.slice a4 a5 a6) ∧ ((w7.alloc (.cells #[.bool lf, .slice a1 a2 a3, .slice a4 a5 a6] 46)).alloc (.cells #[.bool lf, .slice b1 b2 b3, .slice b4 b5 b6] 46)).cell? ⟨w7.heap.size + 1, 0, none⟩ = some (.bool lf) ∧ ((w7.alloc (.cells #[.bool lf, .slice a1 a2 a3, .slice a4 a5 a6] 46)).alloc (.cells #[.bool lf, .slice b1 b2 b3, .slice b4 b5 b6] 46)).cell? ⟨w7.heap.size + 1, 1, none⟩ = some (.slice b1 b2 b3) ∧ ((w7.alloc (.cells #[.bool lf, .slice a1 a2 a3, .slice a4 a5 a6] 46)).alloc (.cells #[.bool lf, .slice b1 b2 b3, .slice b4 b5 b6] 46)).cell? ⟨w7.heap.size + 1, 2, none⟩ = some (.slice b4 b5 b6) ∧ Below w.heap.size w ((w7.alloc (.cells #[.bool lf, .slice a1 a2 a3, .slice a4 a5 a6] 46)).alloc (.cells #[.bool lf, .slice b1 b2 b3, .slice b4 b5 b6] 46))) := by
          obtain ⟨k0, k1, k2, k3, k4, k5, kB⟩ := step6 (Nat.le_refl _) HC7.out (twoB w7 (.cells #[.bool lf, .slice a1 a2 a3, .slice a4 a5 a6] 46) (.cells #[.bool lf, .slice b1 b2 b3, .slice b4 b5 b6] 46))
          exact ⟨k0, k1, k2, k3, k4, k5, two0 _ _ _ _ _ 0, two0 _ _ _ _ _ 1, two0 _ _ _ _ _ 2, two1 _ _ _ _ _ 0, two1 _ _ _ _ _ 1, two1 _ _ _ _ _ 2, kB⟩
        have HX8 := Lib.hid (HX7.out.below (twoB w7 (.cells #[.bool lf, .slice a1 a2 a3, .slice a4 a5 a6] 46) (.cells #[.bool lf, .slice b1 b2 b3, .slice b4 b5 b6] 46)))
        have HY8 := Lib.hid (HY7.out.below (twoB w7 (.cells #[.bool lf, .slice a1 a2 a3, .slice a4 a5 a6] 46) (.cells #[.bool lf, .slice b1 b2 b3, .slice b4 b5 b6] 46)))
        have HA8 := Lib.hid (HA7.out.below (twoB w7 (.cells #[.bool lf, .slice a1 a2 a3, .slice a4 a5 a6] 46) (.cells #[.bool lf, .slice b1 b2 b3, .slice b4 b5 b6] 46)))
        have HB8 := Lib.hid (HB7.out.below (twoB w7 (.cells #[.bool lf, .slice a1 a2 a3, .slice a4 a5 a6] 46) (.cells #[.bool lf, .slice b1 b2 b3, .slice b4 b5 b6] 46)))
        clear HC7 HX7 HY7 HA7 HB7
        generalize ((w7.alloc (.cells #[.bool lf, .slice a1 a2 a3, .slice a4 a5 a6] 46)).alloc (.cells #[.bool lf, .slice b1 b2 b3, .slice b4 b5 b6] 46)) = W8 at HC8 HX8 HY8 HA8 HB8 ⊢
        generalize w7.heap.size = q at HC8 ⊢
        have HTO := Lib.hid (to_any _ N W8 HX8.out (by have := PA.out.2; omega))
        have HRS := Lib.hid (fun W x (hx : RnV W x (Sl.toR N)) => rsplit_any x (Sl.toR N) W hx (by have := Sl.lim_toR N 400 PA.out; omega) PR.out)
        have k0 := HC8.out.1
        have k1 := HC8.out.2.1
        have k2 := HC8.out.2.2.1
        go_upto_region 8 with (first
          | (go_at_call 28; (refine (HRS.out _ _ HR9.out).mono ?_; rintro e w10 ⟨sf, sg, rfl, hf, hg, hb10⟩; obtain ⟨f1, f2, f3, hfv⟩ := hf.form; obtain ⟨g1, g2, g3, hgv⟩ := hg.form; rw [show (Sl.rsA (Sl.toR N)).leaf = lf from HPL.out] at hfv; rw [show (Sl.rsB (Sl.toR N)).leaf = lf from HPL.out] at hgv; subst hfv hgv; have HF10 := Lib.hid hf; have HG10 := Lib.hid hg; have HC10 := Lib.hid (step12 (Nat.le_refl _) HC9.out hb10); have HX10 := Lib.hid (HX9.out.below hb10); have HY10 := Lib.hid (HY9.out.below hb10); have HA10 := Lib.hid (HA9.out.below hb10); have HB10 := Lib.hid (HB9.out.below hb10); clear hf hg hb10))
          | (go_at_call 16; refine HTO.out.mono ?_; rintro e w9 ⟨xr, rfl, hr, hb9⟩; have HR9 := Lib.hid hr; have HC9 := Lib.hid (step12 (Nat.le_refl _) HC8.out hb9); have HX9 := Lib.hid (HX8.out.below hb9); have HY9 := Lib.hid (HY8.out.below hb9); have HA9 := Lib.hid (HA8.out.below hb9); have HB9 := Lib.hid (HB8.out.below hb9); clear hr hb9))
        clear HC8 HC9 HX8 HX9 HY8 HY9 HA8 HA9 HB8 HB9 HR9 HTO HRS k0 k1 k2
        have HC11 : Hid (((w10.alloc (.cells #[.bool lf, .slice f1 f2 f3] 49)).alloc (.cells #[.bool lf, .slice g1 g2 g3] 49)).cell? ⟨p, 0, none⟩ = some (.bool lf) ∧ ((w10.alloc (.cells #[.bool lf, .slice f1 f2 f3] 49)).alloc (.cells #[.bool lf, .slice g1 g2 g3] 49)).cell? ⟨p, 1, none⟩ = some (.slice x1 x2 x3) ∧ ((w10.alloc (.cells #[.bool lf, .slice f1 f2 f3] 49)).alloc (.cells #[.bool lf, .slice g1 g2 g3] 49)).cell? ⟨p, 2, none⟩ = some (.slice x4 x5 x6) ∧ ((w10.alloc (.cells #[.bool lf, .slice f1 f2 f3] 49)).alloc (.cells #[.bool lf, .slice g1 g2 g3] 49)).cell? ⟨p + 1, 0, none⟩ = some (.bool lf) ∧ ((w10.alloc (.cells #[.bool lf, .slice f1 f2 f3] 49)).alloc (.cells #[.bool lf, .slice g1 g2 g3] 49)).cell? ⟨p + 1, 1, none⟩ = some (.slice y1 y2 y3) ∧ ((w10.alloc (.cells #[.bool lf, .slice f1 f2 f3] 49)).alloc (.cells #[.bool lf, .slice g1 g2 g3] 49)).cell? ⟨p + 1, 2, none⟩ = some (.slice y4 y5 y6) ∧ ((w10.alloc (.cells #[.bool lf, .slice f1 f2 f3] 49)).alloc (.cells #[.bool lf, .slice g1 g2 g3] 49)).cell? ⟨q, 0, none⟩ = some (.bool lf) ∧ ((w10.alloc (.cells #[.bool lf, .slice f1 f2 f3] 49)).alloc (.cells #[.bool lf, .slice g1 g2 g3] 49)).cell? ⟨q, 1, none⟩ = some (.slice a1 a2 a3) ∧ ((w10.alloc (.cells #[.bool lf, .slice f1 f2 f3] 49)).alloc (.cells #[.bool lf, .slice g1 g2 g3] 49)).cell? ⟨q, 2, none⟩ = some (.slice a4 a5 a6) ∧ ((w10.alloc (.cells #[.bool lf, .slice f1 f2 f3] 49)).alloc (.cells #[.bool lf, .slice g1 g2 g3] 49)).cell? ⟨q + 1, 0, none⟩ = some (.bool lf) ∧ ((w10.alloc (.cells #[.bool lf, .slice f1 f2 f3] 49)).alloc (.cells #[.bool lf, .slice g1 g2 g3] 49)).cell? ⟨q + 1, 1, none⟩ = some (.slice b1 b2 b3) ∧ ((w10.alloc (.cells #[.bool lf, .slice f1 f2 f3] 49)).alloc (.cells #[.bool lf, .slice g1 g2 g3] 49)).cell? ⟨q + 1, 2, none⟩ = some (.slice b4 b5 b6) ∧ ((w10.alloc (.cells #[.bool lf, .slice f1 f2 f3] 49)).alloc (.cells #[.bool lf, .slice g1 g2 g3] 49)).cell? ⟨w10.heap.size, 0, none⟩ = some (.bool lf) ∧ ((w10.alloc (.cells #[.bool lf, .slice f1 f2 f3] 49)).alloc (.cells #[.bool lf, .slice g1 g2 g3] 49)).cell? ⟨w10.heap.size, 1, none⟩ = some (.slice f1 f2 f3) ∧ ((w10.alloc (.cells #[.bool lf, .slice f1 f2 f3] 49)).alloc (.cells #[.bool lf, .slice g1 g2 g3] 49)).cell? ⟨w10.heap.size + 1, 0, none⟩ = some (.bool lf) ∧ ((w10.alloc (.cells #[.bool lf, .slice f1 f2 f3] 49)).alloc (.cells #[.bool lf, .slice g1 g2 g3] 49)).cell? ⟨w10.heap.size + 1, 1, none⟩ = some (.slice g1 g2 g3) ∧ Below w.heap.size w ((w10.alloc (.cells #[.bool lf, .slice f1 f2 f3] 49)).alloc (.cells #[.bool lf, .slice g1 g2 g3] 49))) := by
          obtain ⟨k0, k1, k2, k3, k4, k5, k6, k7, k8, k9, k10, k11, kB⟩ := step12 (Nat.le_refl _) HC10.out (twoB w10 (.cells #[.bool lf, .slice f1 f2 f3] 49) (.cells #[.bool lf, .slice g1 g2 g3] 49))
          exact ⟨k0, k1, k2, k3, k4, k5, k6, k7, k8, k9, k10, k11, two0 _ _ _ _ _ 0, two0 _ _ _ _ _ 1, two1 _ _ _ _ _ 0, two1 _ _ _ _ _ 1, kB⟩
        have hBT := twoB w10 (.cells #[.bool lf, .slice f1 f2 f3] 49) (.cells #[.bool lf, .slice g1 g2 g3] 49)
        have HX11 := Lib.hid (HX10.out.below hBT)
        have HY11 := Lib.hid (HY10.out.below hBT)
        have HA11 := Lib.hid (HA10.out.below hBT)
        have HB11 := Lib.hid (HB10.out.below hBT)
        have HF11 := Lib.hid (HF10.out.below hBT)
        have HG11 := Lib.hid (HG10.out.below hBT)
        clear HC10 HX10 HY10 HA10 HB10 HF10 HG10 hBT
        generalize ((w10.alloc (.cells #[.bool lf, .slice f1 f2 f3] 49)).alloc (.cells #[.bool lf, .slice g1 g2 g3] 49)) = W11 at HC11 HX11 HY11 HA11 HB11 HF11 HG11 ⊢
        generalize w10.heap.size = r at HC11 ⊢
        rw [Sl.toR_spK N]
        rw [← Sl.toR_spA N] at HF11
        rw [← Sl.toR_spB N] at HG11
        have HS1 := Lib.hid (fun W (hW : Below W11.heap.size W11 W) => lsame_any _ _ (Sl.spA N) W (HA11.out.below hW) (HF11.out.below hW) (by have := (Sl.lim_spA N 400 PA.out).1; omega) (by have := (Sl.lim_spA N 400 PA.out).2; omega))
        have HS2 := Lib.hid (fun W (hW : Below W11.heap.size W11 W) => lsame_any _ _ (Sl.spB N) W (HB11.out.below hW) (HG11.out.below hW) (by have := (Sl.lim_spB N 400 PA.out).1; omega) (by have := (Sl.lim_spB N 400 PA.out).2; omega))
        have HJN := Lib.hid (fun W (hW : Below W11.heap.size W11 W) => join_any _ _ N O key W (HX11.out.below hW) (HY11.out.below hW) (by have := PA.out.1; omega) (by have := PB.out.1; omega) (by have := PA.out.2; omega) (by have := PB.out.2; omega))
        have HT1 := Lib.hid (fun W (hW : Below W11.heap.size W11 W) => to_any _ N W (HX11.out.below hW) (by have := PA.out.2; omega))
        have HT2 := Lib.hid (fun W (hW : Below W11.heap.size W11 W) => to_any _ O W (HY11.out.below hW) (by have := PB.out.2; omega))
        have HRJ := Lib.hid (fun W u v (hu : RnV W u (Sl.toR N)) (hv : RnV W v (Sl.toR O)) => rjoin_any u v (Sl.toR N) (Sl.toR O) key W hu hv (by have := Sl.lim_toR N 400 PA.out; omega) (by have := Sl.lim_toR O 400 PB.out; omega))
        have HS7 := Lib.hid (fun W u v (hu : NdV W u (Sl.joinN N key O)) (hv : RnV W v (Sl.toR (Sl.joinN N key O))) => lsame_any u v (Sl.joinN N key O) W hu hv (by have := (Sl.lim_join N O key 400 PA.out PB.out).1; omega) (by have := (Sl.lim_join N O key 400 PA.out PB.out).2; omega))
        have HJ2 := Lib.hid (fun W (hW : Below W11.heap.size W11 W) => join_any _ _ (Sl.spA N) (Sl.spB N) (Sl.spK N) W (HA11.out.below hW) (HB11.out.below hW) (by have := (Sl.lim_spA N 400 PA.out).1; omega) (by have := (Sl.lim_spB N 400 PA.out).1; omega) (by have := (Sl.lim_spA N 400 PA.out).2; omega) (by have := (Sl.lim_spB N 400 PA.out).2; omega))
        rw [PJ.out] at HJ2
        have HSM := Lib.hid (fun W u (hu : NdV W u N) (hW : Below W11.heap.size W11 W) => nsame_any u _ N W hu (HX11.out.below hW) (by have := PA.out.1; omega) (by have := PA.out.2; omega))
        have hJL : Sl.joinR (Sl.toR N) key (Sl.toR O) = Sl.toR (Sl.joinN N key O) := (Sl.toR_join N key O (HPL.out.trans HPM.out.symm)).symm
        have HJL := Lib.hid hJL
        have HW11 := Lib.hid (HC11.out.2.2.2.2.2.2.2.2.2.2.2.2.2.2.2.2)
        have hF : Hid (W11.drew.cell? ⟨p, 0, none⟩ = some (.bool lf) ∧ W11.drew.cell? ⟨p, 1, none⟩ = some (.slice x1 x2 x3) ∧ W11.drew.cell? ⟨p, 2, none⟩ = some (.slice x4 x5 x6) ∧ W11.drew.cell? ⟨p + 1, 0, none⟩ = some (.bool lf) ∧ W11.drew.cell? ⟨p + 1, 1, none⟩ = some (.slice y1 y2 y3) ∧ W11.drew.cell? ⟨p + 1, 2, none⟩ = some (.slice y4 y5 y6) ∧ W11.drew.cell? ⟨q, 0, none⟩ = some (.bool lf) ∧ W11.drew.cell? ⟨q, 1, none⟩ = some (.slice a1 a2 a3) ∧ W11.drew.cell? ⟨q, 2, none⟩ = some (.slice a4 a5 a6) ∧ W11.drew.cell? ⟨q + 1, 0, none⟩ = some (.bool lf) ∧ W11.drew.cell? ⟨q + 1, 1, none⟩ = some (.slice b1 b2 b3) ∧ W11.drew.cell? ⟨q + 1, 2, none⟩ = some (.slice b4 b5 b6) ∧ W11.drew.cell? ⟨r, 0, none⟩ = some (.bool lf) ∧ W11.drew.cell? ⟨r, 1, none⟩ = some (.slice f1 f2 f3) ∧ W11.drew.cell? ⟨r + 1, 0, none⟩ = some (.bool lf) ∧ W11.drew.cell? ⟨r + 1, 1, none⟩ = some (.slice g1 g2 g3) ∧ Below W11.heap.size W11 W11.drew) := by
          obtain ⟨k0, k1, k2, k3, k4, k5, k6, k7, k8, k9, k10, k11, k12, k13, k14, k15, _⟩ := HC11.out
          exact ⟨k0, k1, k2, k3, k4, k5, k6, k7, k8, k9, k10, k11, k12, k13, k14, k15, (Below.refl _ _).drew⟩
        clear hJL HC11 HX11 HY11 HA11 HB11 HF11 HG11 PJ PO PR PL PM
        go_region_held3 (fun w' => w'.cell? ⟨p, 0, none⟩ = some (.bool lf) ∧ w'.cell? ⟨p, 1, none⟩ = some (.slice x1 x2 x3) ∧ w'.cell? ⟨p, 2, none⟩ = some (.slice x4 x5 x6) ∧ w'.cell? ⟨p + 1, 0, none⟩ = some (.bool lf) ∧ w'.cell? ⟨p + 1, 1, none⟩ = some (.slice y1 y2 y3) ∧ w'.cell? ⟨p + 1, 2, none⟩ = some (.slice y4 y5 y6) ∧ w'.cell? ⟨q, 0, none⟩ = some (.bool lf) ∧ w'.cell? ⟨q, 1, none⟩ = some (.slice a1 a2 a3) ∧ w'.cell? ⟨q, 2, none⟩ = some (.slice a4 a5 a6) ∧ w'.cell? ⟨q + 1, 0, none⟩ = some (.bool lf) ∧ w'.cell? ⟨q + 1, 1, none⟩ = some (.slice b1 b2 b3) ∧ w'.cell? ⟨q + 1, 2, none⟩ = some (.slice b4 b5 b6) ∧ w'.cell? ⟨r, 0, none⟩ = some (.bool lf) ∧ w'.cell? ⟨r, 1, none⟩ = some (.slice f1 f2 f3) ∧ w'.cell? ⟨r + 1, 0, none⟩ = some (.bool lf) ∧ w'.cell? ⟨r + 1, 1, none⟩ = some (.slice g1 g2 g3) ∧ Below W11.heap.size W11 w')
          ((first | assumption | exact step16 (Nat.le_refl _) ‹_› hb | exact hF.out))
          (first
          | (go_at_call 18; refine (HS7.out _ _ _ HJ6.out HR6.out).mono ?_; rintro e w17 ⟨rfl, hb⟩)
          | (go_at_call 30; refine (HRJ.out _ _ _ HR15.out HR5.out).mono ?_; rintro e w16 ⟨vr, rfl, hr6, hb⟩; have HR6 := Lib.hid (HJL.out ▸ hr6); have HJ6 := Lib.hid (HJ5.out.below hb); clear hr6)
          | (go_at_call 16; with_reducible refine (HT2.out _ (last16 (by assumption))).mono ?_; rintro e w15 ⟨vt2, rfl, hr5, hb⟩; have HR5 := Lib.hid hr5; have HR15 := Lib.hid (HR4.out.below hb); have HJ5 := Lib.hid (HJ4.out.below hb); clear hr5)
          | (go_at_call 16; with_reducible refine (HT1.out _ (last16 (by assumption))).mono ?_; rintro e w14 ⟨vt1, rfl, hr4, hb⟩; have HR4 := Lib.hid hr4; have HJ4 := Lib.hid (HJ3.out.below hb); clear hr4)
          | (go_at_call 29; with_reducible refine (HJN.out _ (last16 (by assumption))).mono ?_; rintro e w13 ⟨vj, rfl, hj3, hb⟩; have HJ3 := Lib.hid hj3; clear hj3)
          | (go_at_call 18; with_reducible refine (HS2.out _ (last16 (by assumption))).mono ?_; rintro e w12 ⟨rfl, hb⟩)
          | (go_at_call 18; with_reducible refine (HS1.out _ (last16 (by assumption))).mono ?_; rintro e w12 ⟨rfl, hb⟩))
        rename_i hS
        have HS8 := Lib.hid hS
        clear hS HS1 HS2 HJN HT1 HT2 HRJ HS7 hF
        go_wp2_with fail
        have hF2 : Hid (w17.drew.cell? ⟨p, 0, none⟩ = some (.bool lf) ∧ w17.drew.cell? ⟨p, 1, none⟩ = some (.slice x1 x2 x3) ∧ w17.drew.cell? ⟨p, 2, none⟩ = some (.slice x4 x5 x6) ∧ w17.drew.cell? ⟨p + 1, 0, none⟩ = some (.bool lf) ∧ w17.drew.cell? ⟨p + 1, 1, none⟩ = some (.slice y1 y2 y3) ∧ w17.drew.cell? ⟨p + 1, 2, none⟩ = some (.slice y4 y5 y6) ∧ w17.drew.cell? ⟨q, 0, none⟩ = some (.bool lf) ∧ w17.drew.cell? ⟨q, 1, none⟩ = some (.slice a1 a2 a3) ∧ w17.drew.cell? ⟨q, 2, none⟩ = some (.slice a4 a5 a6) ∧ w17.drew.cell? ⟨q + 1, 0, none⟩ = some (.bool lf) ∧ w17.drew.cell? ⟨q + 1, 1, none⟩ = some (.slice b1 b2 b3) ∧ w17.drew.cell? ⟨q + 1, 2, none⟩ = some (.slice b4 b5 b6) ∧ w17.drew.cell? ⟨r, 0, none⟩ = some (.bool lf) ∧ w17.drew.cell? ⟨r, 1, none⟩ = some (.slice f1 f2 f3) ∧ w17.drew.cell? ⟨r + 1, 0, none⟩ = some (.bool lf) ∧ w17.drew.cell? ⟨r + 1, 1, none⟩ = some (.slice g1 g2 g3) ∧ Below W11.heap.size W11 w17.drew) := by
          obtain ⟨k0, k1, k2, k3, k4, k5, k6, k7, k8, k9, k10, k11, k12, k13, k14, k15, kB⟩ := HS8.out
          exact ⟨k0, k1, k2, k3, k4, k5, k6, k7, k8, k9, k10, k11, k12, k13, k14, k15, kB.drew⟩
        clear HS8
        by_cases hl2 : (l.length : Int) < 2
        · have hB := last16 hF2.out
          have hb0 : Below W11.heap.size W11 w17 := ⟨hB.os, hB.tape, hB.output, hB.size, hB.block⟩
          have HB := Lib.hid hb0
          clear hB hb0 hF2
          go_quiet (fail)
          go_wp2
          go_ret
          exact ⟨rfl, HW11.out.trans ((below_drewN HB.out _).mono HW11.out.size)⟩
        · skip
          go_region_held3 (fun w' => w'.cell? ⟨p, 0, none⟩ = some (.bool lf) ∧ w'.cell? ⟨p, 1, none⟩ = some (.slice x1 x2 x3) ∧ w'.cell? ⟨p, 2, none⟩ = some (.slice x4 x5 x6) ∧ w'.cell? ⟨p + 1, 0, none⟩ = some (.bool lf) ∧ w'.cell? ⟨p + 1, 1, none⟩ = some (.slice y1 y2 y3) ∧ w'.cell? ⟨p + 1, 2, none⟩ = some (.slice y4 y5 y6) ∧ w'.cell? ⟨q, 0, none⟩ = some (.bool lf) ∧ w'.cell? ⟨q, 1, none⟩ = some (.slice a1 a2 a3) ∧ w'.cell? ⟨q, 2, none⟩ = some (.slice a4 a5 a6) ∧ w'.cell? ⟨q + 1, 0, none⟩ = some (.bool lf) ∧ w'.cell? ⟨q + 1, 1, none⟩ = some (.slice b1 b2 b3) ∧ w'.cell? ⟨q + 1, 2, none⟩ = some (.slice b4 b5 b6) ∧ w'.cell? ⟨r, 0, none⟩ = some (.bool lf) ∧ w'.cell? ⟨r, 1, none⟩ = some (.slice f1 f2 f3) ∧ w'.cell? ⟨r + 1, 0, none⟩ = some (.bool lf) ∧ w'.cell? ⟨r + 1, 1, none⟩ = some (.slice g1 g2 g3) ∧ Below W11.heap.size W11 w')
            ((first | assumption | exact step16 (Nat.le_refl _) ‹_› hb | exact hF2.out))
            (first
            | (go_at_call 31; with_reducible refine (HSM.out _ _ HJ9.out (last16 (by assumption))).mono ?_; rintro e w19 ⟨rfl, hb⟩)
            | (go_at_call 29; with_reducible refine (HJ2.out _ (last16 (by assumption))).mono ?_; rintro e w18 ⟨vj, rfl, hj9, hb⟩; have HJ9 := Lib.hid hj9; clear hj9))
          rename_i hS
          have HB := Lib.hid (last16 hS)
          clear hS
          go_wp2
          go_ret
          exact ⟨rfl, HW11.out.trans (HB.out.mono HW11.out.size)⟩
    · go_wp2
      go_ret
      exact ⟨rfl, below_step HB2.out hb3⟩
  · go_wp2
    go_ret
    exact ⟨rfl, below_step hb1 hb2⟩
end Go.Proofs.Ytilccpklbaglpaa
