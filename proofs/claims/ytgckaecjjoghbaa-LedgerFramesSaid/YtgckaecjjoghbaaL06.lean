/- Texts of one seat, merged. -/
import Derived.Test.YtgckaecjjoghbaaL05
import Derived.Test.YtgckaecjjoghbaaL03
import Derived.BigQuiet
import Derived.Deep.QuietTactic
import Derived.Shelf.SlSortCmp.NoneTotal
import Derived.Test.YtgckaecjjoghbaaProg
import Derived.Sort.OwnSorted
import Derived.Laws.CopyOwn
import Derived.Laws.CopyRow
import Derived.Laws.AppendOwn
import Derived.Laws.OwnMore
import Derived.Lib.SliceRun
import Derived.Lib.AppendZerosOnto
import Derived.Lib.Overlaps
import Derived.Below
set_option maxRecDepth 100000
set_option maxHeartbeats 4000000
set_option linter.unusedVariables false
/- The contracts of the document's With and Sort of entries. -/
namespace Go.Proofs.Ytgckaecjjoghbaa
open Go.RowKit
open Ld (En)
set_option maxHeartbeats 8000000 in
theorem lWith_any (v : Value) (l : List En) (x : En) (hl : l.length ≤ 50000) (w : World) (hv : SlE w v l) :
    Calls Try.prog 60 #[v, .agg #[.int .u64 x.tx, .int .u32 x.page]] w (OwnRE (Ld.withE l x) w) := by
  obtain ⟨i0, hi, hz0, hz1, hz2⟩ := info_parts infoRE
  have HWL : Hid (Ld.withE l x = if (Ld.wrun x l).2 then (Ld.wrun x l).1 else (Ld.wrun x l).1 ++ [x]) := rfl
  generalize Ld.withE l x = RR at HWL ⊢
  obtain ⟨a, b, o, c, rfl, ha, hx⟩ := hv
  have HX := Lib.hid hx
  have HA := Lib.hid ha
  obtain ⟨xt, xp⟩ := x
  clear ha hx
  go_enter Try.func60, Try.ntmps60
  go_upto_region 1 with fail
  have HW0 : Hid (Below w.heap.size w (w.alloc (.cells #[.int .u64 xt, .int .u32 xp] 90))) := (Below.refl _ _).alloc (Nat.le_refl _) _
  have HQ0 : Hid ((w.alloc (.cells #[.int .u64 xt, .int .u32 xp] 90)).cell? ⟨w.heap.size, 0, none⟩ = some (.int .u64 xt)) := World.cell?_alloc_new _ _ _ 0
  have HQ1 : Hid ((w.alloc (.cells #[.int .u64 xt, .int .u32 xp] 90)).cell? ⟨w.heap.size, 1, none⟩ = some (.int .u32 xp)) := World.cell?_alloc_new _ _ _ 1
  have HQL : Hid (w.heap.size < (w.alloc (.cells #[.int .u64 xt, .int .u32 xp] 90)).heap.size) := World.block_lt_of_cell? _ _ HQ0.out
  generalize (w.alloc (.cells #[.int .u64 xt, .int .u32 xp] 90)) = W0 at HW0 HQ0 HQ1 HQL ⊢
  generalize hg : w.heap.size = g at HW0 HQ0 HQ1 HQL ⊢
  have HG := Lib.hid hg
  clear hg
  go_wp2
  go_loopg [5, 6, 11] l.length (fun n sv dv i wr => ∃ (k : Nat) (u : Value) (d : Bool), k ≤ l.length ∧ n = l.length - k ∧ i = .int .i64 (k : Nat) ∧ u = sv ∧ dv = .bool d ∧ Hid ((Ld.wrun ⟨xt, xp⟩ (l.take k)).2 = d) ∧ Hid (RowE 90 wr W0.heap.size u (Ld.wrun ⟨xt, xp⟩ (l.take k)).1) ∧ Hid (Below W0.heap.size W0 wr))
  case atStart => exact ⟨0, _, false, Nat.zero_le _, rfl, rfl, rfl, rfl, rfl, World.ownsRow_nil _ _ _ _, Below.refl _ _⟩
  case round =>
    obtain ⟨k, u, d, hk, rfl, rfl, rfl, rfl, HD, HR, HB⟩ := hrel
    have HLN : Hid ((Ld.wrun ⟨xt, xp⟩ (l.take k)).1.length ≤ 50001) := by
      have h1 := Ld.wrun_len ⟨xt, xp⟩ (l.take k)
      rw [List.length_take] at h1
      show _ ≤ _
      omega
    by_cases hlt : k < l.length
    · obtain ⟨y, hy⟩ := some_at hlt
      obtain rfl : a = some ⟨b, o, none⟩ := HA.out.resolve_left (by intro h; rw [h] at hlt; cases hlt)
      obtain ⟨e0, e1⟩ := HX.out k y hy
      have hbl0 : b < g := by rw [← HG.out]; exact World.block_lt_of_cell? _ _ e0
      have hblt : b < W0.heap.size := Nat.lt_trans hbl0 HQL.out
      have d0 := (HB.out.cell (p := ⟨b, o + k * 2, none⟩) hblt).trans ((HW0.out.cell (p := ⟨b, o + k * 2, none⟩) hbl0).trans e0)
      have d1 := (HB.out.cell (p := ⟨b, o + k * 2 + 1, none⟩) hblt).trans ((HW0.out.cell (p := ⟨b, o + k * 2 + 1, none⟩) hbl0).trans e1)
      have HS := Lib.hid (Ld.wrun_take ⟨xt, xp⟩ hy)
      have HST : Hid (Ld.wstep ⟨xt, xp⟩ (Ld.wrun ⟨xt, xp⟩ (l.take k)) y = if !d && !Ld.ahead y ⟨xt, xp⟩ then (if y = ⟨xt, xp⟩ then ((Ld.wrun ⟨xt, xp⟩ (l.take k)).1 ++ [⟨xt, xp⟩], true) else ((Ld.wrun ⟨xt, xp⟩ (l.take k)).1 ++ [⟨xt, xp⟩] ++ [y], true)) else (if y = ⟨xt, xp⟩ then ((Ld.wrun ⟨xt, xp⟩ (l.take k)).1, d) else ((Ld.wrun ⟨xt, xp⟩ (l.take k)).1 ++ [y], d))) := by
        show _ = _
        have hd := HD.out
        generalize Ld.wrun ⟨xt, xp⟩ (l.take k) = s at hd
        obtain ⟨s1, s2⟩ := s
        simp only at hd
        subst hd
        rfl
      generalize Ld.wstep ⟨xt, xp⟩ (Ld.wrun ⟨xt, xp⟩ (l.take k)) y = NS at HS HST
      generalize (Ld.wrun ⟨xt, xp⟩ (l.take k)).1 = M at HR HLN HST
      have hln := HLN.out
      obtain ⟨yt, yp⟩ := y
      clear e0 e1 hy hblt hbl0 HD
      go_upto_region 6 with fail
      have HR1 : Hid (RowE 90 (wr.alloc (.cells #[.int .u64 yt, .int .u32 yp] 90)) W0.heap.size u M) := HR.out.alloc _
      have HB1 : Hid (Below W0.heap.size W0 (wr.alloc (.cells #[.int .u64 yt, .int .u32 yp] 90))) := HB.out.alloc HB.out.size _
      have HY : Hid ((wr.alloc (.cells #[.int .u64 yt, .int .u32 yp] 90)).cell? ⟨wr.heap.size, 0, none⟩ = some (.int .u64 yt) ∧ (wr.alloc (.cells #[.int .u64 yt, .int .u32 yp] 90)).cell? ⟨wr.heap.size, 1, none⟩ = some (.int .u32 yp)) := ⟨World.cell?_alloc_new _ _ _ 0, World.cell?_alloc_new _ _ _ 1⟩
      have HYL : Hid (W0.heap.size ≤ wr.heap.size) := HB.out.size
      have HUL : Hid (∀ j, u.ownBlock = some j → j < wr.heap.size) := fun j hj => (World.ownsRow.lt HR.out j hj).2
      generalize (wr.alloc (.cells #[.int .u64 yt, .int .u32 yp] 90)) = W1 at HR1 HB1 HY ⊢
      generalize wr.heap.size = q at HY HYL HUL ⊢
      have q0 := (HB1.out.cell (p := ⟨g, 0, none⟩) HQL.out).trans HQ0.out
      have q1 := (HB1.out.cell (p := ⟨g, 1, none⟩) HQL.out).trans HQ1.out
      obtain ⟨y0, y1⟩ := HY.out
      have hbs := HB1.out.size
      clear d0 d1 HR HB
      have HQW := Lib.hid (World.block_lt_of_cell? _ _ y0)
      have HGW := Lib.hid (World.block_lt_of_cell? _ _ q0)
      cases d with
      | true =>
        have HSX : Hid (NS = if (⟨yt, yp⟩ : En) = ⟨xt, xp⟩ then (M, true) else (M ++ [⟨yt, yp⟩], true)) := HST.out
        clear HST
        go_upto_region 9 with fail
        rcases (show (¬ yt = xt) ∨ (yt = xt ∧ ¬ yp = xp) ∨ (yt = xt ∧ yp = xp) by omega) with hc | ⟨hc0, hc⟩ | ⟨hc0, hc⟩
        · have hne : ¬ (yt : Int) = (xt : Int) := by omega
          have HNE : Hid (¬ (⟨yt, yp⟩ : En) = ⟨xt, xp⟩) := fun h => hc (by cases h; rfl)
          clear hc
          have HNS : Hid (NS = (M ++ [⟨yt, yp⟩], true)) := by show _ = _; rw [HSX.out, if_neg HNE.out]
          go_wp2_with (at_builtin; refine wpList_append_own _ rfl _ _ 56 rfl W0.heap.size 90 i0 _ 2 16 Try.underlying56 hi hz0 hz1 hz2 rfl (by decide) _ (M.length) _ rfl (HR1.out.alloc _) ⟨W1.heap.size, 0, none⟩ 1 1 [.int .u64 yt, .int .u32 yp] rfl rfl (twoL _ _ _ _) (by first | rfl | (intro z hz; simp at hz; rcases hz with rfl | rfl <;> rfl)) (by first | omega | (simp; omega) | (unfold maxLen; simp; omega) | (unfold maxLen; omega)) (by first | omega | (simp; omega)) (by first | omega | (simp; omega)) ?_; intro v8 w8 hown' hgrow _; have HR8 : Hid (RowE 90 w8 W0.heap.size v8 (M ++ [⟨yt, yp⟩])) := (by show World.ownsRow _ _ _ _ _ _ _; rw [List.flatMap_append, List.length_append, List.flatMap_cons, List.flatMap_nil, List.append_nil]; exact hown'); have HB8 : Hid (Below W0.heap.size W0 w8) := (HB1.out.alloc HB1.out.size _).grown hgrow (by simp; omega) (fun g hg => (HR1.out.lt g hg).1); have sHB8 := HB8.out.size; obtain ⟨a_HR8, c_HR8, hv_HR8⟩ : ∃ a c, v8 = .slice a (M.length + 1) c := (by obtain ⟨a, c, h⟩ := HR8.out.slice; exact ⟨a, c, by rw [h]; simp⟩); subst hv_HR8; clear hown' hgrow)
          go_roundg (l.length - (k + 1))
          case measure => omega
          case rel => exact ⟨k + 1, _, true, hlt, rfl, by go_num, rfl, rfl, by show _ = _; rw [HS.out, HNS.out], by show RowE _ _ _ _ _; rw [HS.out, HNS.out]; exact HR8.out, HB8⟩
        · subst hc0
          have hne : ¬ (yp : Int) = (xp : Int) := by omega
          have HNE : Hid (¬ (⟨yt, yp⟩ : En) = ⟨yt, xp⟩) := fun h => hc (by cases h; rfl)
          clear hc
          have HNS : Hid (NS = (M ++ [⟨yt, yp⟩], true)) := by show _ = _; rw [HSX.out, if_neg HNE.out]
          go_wp2_with (at_builtin; refine wpList_append_own _ rfl _ _ 56 rfl W0.heap.size 90 i0 _ 2 16 Try.underlying56 hi hz0 hz1 hz2 rfl (by decide) _ (M.length) _ rfl (HR1.out.alloc _) ⟨W1.heap.size, 0, none⟩ 1 1 [.int .u64 yt, .int .u32 yp] rfl rfl (twoL _ _ _ _) (by first | rfl | (intro z hz; simp at hz; rcases hz with rfl | rfl <;> rfl)) (by first | omega | (simp; omega) | (unfold maxLen; simp; omega) | (unfold maxLen; omega)) (by first | omega | (simp; omega)) (by first | omega | (simp; omega)) ?_; intro v8 w8 hown' hgrow _; have HR8 : Hid (RowE 90 w8 W0.heap.size v8 (M ++ [⟨yt, yp⟩])) := (by show World.ownsRow _ _ _ _ _ _ _; rw [List.flatMap_append, List.length_append, List.flatMap_cons, List.flatMap_nil, List.append_nil]; exact hown'); have HB8 : Hid (Below W0.heap.size W0 w8) := (HB1.out.alloc HB1.out.size _).grown hgrow (by simp; omega) (fun g hg => (HR1.out.lt g hg).1); have sHB8 := HB8.out.size; obtain ⟨a_HR8, c_HR8, hv_HR8⟩ : ∃ a c, v8 = .slice a (M.length + 1) c := (by obtain ⟨a, c, h⟩ := HR8.out.slice; exact ⟨a, c, by rw [h]; simp⟩); subst hv_HR8; clear hown' hgrow)
          go_roundg (l.length - (k + 1))
          case measure => omega
          case rel => exact ⟨k + 1, _, true, hlt, rfl, by go_num, rfl, rfl, by show _ = _; rw [HS.out, HNS.out], by show RowE _ _ _ _ _; rw [HS.out, HNS.out]; exact HR8.out, HB8⟩
        · subst hc0 hc
          have HNS : Hid (NS = (M, true)) := by show _ = _; rw [HSX.out, if_pos rfl]
          go_wp2
          go_roundg (l.length - (k + 1))
          case measure => omega
          case rel => exact ⟨k + 1, _, true, hlt, rfl, by go_num, rfl, rfl, by show _ = _; rw [HS.out, HNS.out], by show RowE _ _ _ _ _; rw [HS.out, HNS.out]; exact HR1.out, HB1⟩
      | false =>
        have HAH := Lib.hid (fun W => lAhead_any ⟨yt, yp⟩ ⟨xt, xp⟩ W)
        cases hah : Ld.ahead ⟨yt, yp⟩ ⟨xt, xp⟩ with
        | true =>
          have HSX : Hid (NS = if (⟨yt, yp⟩ : En) = ⟨xt, xp⟩ then (M, false) else (M ++ [⟨yt, yp⟩], false)) := by
            have h := HST.out
            rw [hah] at h
            exact h
          rw [hah] at HAH
          clear hah HST
          go_upto_region 9 with (go_at_call 75; refine (HAH.out _).mono ?_; rintro e w2 ⟨rfl, hb2⟩; have HR2 := Lib.hid (RowE.below HR1.out hb2); have HB2 := Lib.hid (HB1.out.trans (hb2.mono HB1.out.size)); have y20 := (hb2.cell (p := ⟨q, 0, none⟩) HQW.out).trans y0; have y21 := (hb2.cell (p := ⟨q, 1, none⟩) HQW.out).trans y1; have q20 := (hb2.cell (p := ⟨g, 0, none⟩) HGW.out).trans q0; have q21 := (hb2.cell (p := ⟨g, 1, none⟩) HGW.out).trans q1; have hbs2 := HB2.out.size; clear hb2)
          rcases (show (¬ yt = xt) ∨ (yt = xt ∧ ¬ yp = xp) ∨ (yt = xt ∧ yp = xp) by omega) with hc | ⟨hc0, hc⟩ | ⟨hc0, hc⟩
          · have hne : ¬ (yt : Int) = (xt : Int) := by omega
            have HNE : Hid (¬ (⟨yt, yp⟩ : En) = ⟨xt, xp⟩) := fun h => hc (by cases h; rfl)
            clear hc
            have HNS : Hid (NS = (M ++ [⟨yt, yp⟩], false)) := by show _ = _; rw [HSX.out, if_neg HNE.out]
            go_wp2_with (at_builtin; refine wpList_append_own _ rfl _ _ 56 rfl W0.heap.size 90 i0 _ 2 16 Try.underlying56 hi hz0 hz1 hz2 rfl (by decide) _ (M.length) _ rfl (HR2.out.alloc _) ⟨w2.heap.size, 0, none⟩ 1 1 [.int .u64 yt, .int .u32 yp] rfl rfl (twoL _ _ _ _) (by first | rfl | (intro z hz; simp at hz; rcases hz with rfl | rfl <;> rfl)) (by first | omega | (simp; omega) | (unfold maxLen; simp; omega) | (unfold maxLen; omega)) (by first | omega | (simp; omega)) (by first | omega | (simp; omega)) ?_; intro v8 w8 hown' hgrow _; have HR8 : Hid (RowE 90 w8 W0.heap.size v8 (M ++ [⟨yt, yp⟩])) := (by show World.ownsRow _ _ _ _ _ _ _; rw [List.flatMap_append, List.length_append, List.flatMap_cons, List.flatMap_nil, List.append_nil]; exact hown'); have HB8 : Hid (Below W0.heap.size W0 w8) := (HB2.out.alloc HB2.out.size _).grown hgrow (by simp; omega) (fun g hg => (HR2.out.lt g hg).1); have sHB8 := HB8.out.size; obtain ⟨a_HR8, c_HR8, hv_HR8⟩ : ∃ a c, v8 = .slice a (M.length + 1) c := (by obtain ⟨a, c, h⟩ := HR8.out.slice; exact ⟨a, c, by rw [h]; simp⟩); subst hv_HR8; clear hown' hgrow)
            go_roundg (l.length - (k + 1))
            case measure => omega
            case rel => exact ⟨k + 1, _, false, hlt, rfl, by go_num, rfl, rfl, by show _ = _; rw [HS.out, HNS.out], by show RowE _ _ _ _ _; rw [HS.out, HNS.out]; exact HR8.out, HB8⟩
          · subst hc0
            have hne : ¬ (yp : Int) = (xp : Int) := by omega
            have HNE : Hid (¬ (⟨yt, yp⟩ : En) = ⟨yt, xp⟩) := fun h => hc (by cases h; rfl)
            clear hc
            have HNS : Hid (NS = (M ++ [⟨yt, yp⟩], false)) := by show _ = _; rw [HSX.out, if_neg HNE.out]
            go_wp2_with (at_builtin; refine wpList_append_own _ rfl _ _ 56 rfl W0.heap.size 90 i0 _ 2 16 Try.underlying56 hi hz0 hz1 hz2 rfl (by decide) _ (M.length) _ rfl (HR2.out.alloc _) ⟨w2.heap.size, 0, none⟩ 1 1 [.int .u64 yt, .int .u32 yp] rfl rfl (twoL _ _ _ _) (by first | rfl | (intro z hz; simp at hz; rcases hz with rfl | rfl <;> rfl)) (by first | omega | (simp; omega) | (unfold maxLen; simp; omega) | (unfold maxLen; omega)) (by first | omega | (simp; omega)) (by first | omega | (simp; omega)) ?_; intro v8 w8 hown' hgrow _; have HR8 : Hid (RowE 90 w8 W0.heap.size v8 (M ++ [⟨yt, yp⟩])) := (by show World.ownsRow _ _ _ _ _ _ _; rw [List.flatMap_append, List.length_append, List.flatMap_cons, List.flatMap_nil, List.append_nil]; exact hown'); have HB8 : Hid (Below W0.heap.size W0 w8) := (HB2.out.alloc HB2.out.size _).grown hgrow (by simp; omega) (fun g hg => (HR2.out.lt g hg).1); have sHB8 := HB8.out.size; obtain ⟨a_HR8, c_HR8, hv_HR8⟩ : ∃ a c, v8 = .slice a (M.length + 1) c := (by obtain ⟨a, c, h⟩ := HR8.out.slice; exact ⟨a, c, by rw [h]; simp⟩); subst hv_HR8; clear hown' hgrow)
            go_roundg (l.length - (k + 1))
            case measure => omega
            case rel => exact ⟨k + 1, _, false, hlt, rfl, by go_num, rfl, rfl, by show _ = _; rw [HS.out, HNS.out], by show RowE _ _ _ _ _; rw [HS.out, HNS.out]; exact HR8.out, HB8⟩
          · subst hc0 hc
            have HNS : Hid (NS = (M, false)) := by show _ = _; rw [HSX.out, if_pos rfl]
            go_wp2
            go_roundg (l.length - (k + 1))
            case measure => omega
            case rel => exact ⟨k + 1, _, false, hlt, rfl, by go_num, rfl, rfl, by show _ = _; rw [HS.out, HNS.out], by show RowE _ _ _ _ _; rw [HS.out, HNS.out]; exact HR2.out, HB2⟩
        | false =>
          have HSX : Hid (NS = if (⟨yt, yp⟩ : En) = ⟨xt, xp⟩ then (M ++ [⟨xt, xp⟩], true) else (M ++ [⟨xt, xp⟩] ++ [⟨yt, yp⟩], true)) := by
            have h := HST.out
            rw [hah] at h
            exact h
          rw [hah] at HAH
          clear hah HST
          go_upto_region 9 with (first
            | (at_builtin; refine wpList_append_own _ rfl _ _ 56 rfl W0.heap.size 90 i0 _ 2 16 Try.underlying56 hi hz0 hz1 hz2 rfl (by decide) _ (M.length) _ rfl (HR2.out.alloc _) ⟨w2.heap.size, 0, none⟩ 1 1 [.int .u64 xt, .int .u32 xp] rfl rfl (twoL _ _ _ _) (by first | rfl | (intro z hz; simp at hz; rcases hz with rfl | rfl <;> rfl)) (by first | omega | (simp; omega) | (unfold maxLen; simp; omega) | (unfold maxLen; omega)) (by first | omega | (simp; omega)) (by first | omega | (simp; omega)) ?_; intro v3 w3 hown' hgrow _; have HR3 : Hid (RowE 90 w3 W0.heap.size v3 (M ++ [⟨xt, xp⟩])) := (by show World.ownsRow _ _ _ _ _ _ _; rw [List.flatMap_append, List.length_append, List.flatMap_cons, List.flatMap_nil, List.append_nil]; exact hown'); have HB3 : Hid (Below W0.heap.size W0 w3) := (HB2.out.alloc HB2.out.size _).grown hgrow (by simp; omega) (fun g hg => (HR2.out.lt g hg).1); have sHB3 := HB3.out.size; have HO3 : Hid (w3.ownsRow W0.heap.size 90 2 v3 (M.length + 1) (List.flatMap cellsE (M ++ [(⟨xt, xp⟩ : En)]))) := (by rw [show (M ++ [⟨xt, xp⟩] : List En).flatMap cellsE = M.flatMap cellsE ++ [.int .u64 xt, .int .u32 xp] from by rw [List.flatMap_append, List.flatMap_cons, List.flatMap_nil, List.append_nil]; rfl]; exact hown'); have y30 := (World.cell?_of_block (hgrow.block q (World.block_lt_of_cell? _ _ (Lib.cell?_alloc_some _ y20)) (fun e => absurd (HUL.out q e.symm) (Nat.lt_irrefl _)))).trans (Lib.cell?_alloc_some _ y20); have y31 := (World.cell?_of_block (hgrow.block q (World.block_lt_of_cell? _ _ (Lib.cell?_alloc_some _ y20)) (fun e => absurd (HUL.out q e.symm) (Nat.lt_irrefl _)))).trans (Lib.cell?_alloc_some _ y21); have q30 := (HB3.out.cell (p := ⟨g, 0, none⟩) HQL.out).trans HQ0.out; have q31 := (HB3.out.cell (p := ⟨g, 1, none⟩) HQL.out).trans HQ1.out; obtain ⟨a_HR3, c_HR3, hv_HR3⟩ : ∃ a c, v3 = .slice a (M.length + 1) c := (by obtain ⟨a, c, h⟩ := HR3.out.slice; exact ⟨a, c, by rw [h]; simp⟩); subst hv_HR3; clear hown' hgrow)
            | (go_at_call 75; refine (HAH.out _).mono ?_; rintro e w2 ⟨rfl, hb2⟩; have HR2 := Lib.hid (RowE.below HR1.out hb2); have HB2 := Lib.hid (HB1.out.trans (hb2.mono HB1.out.size)); have y20 := (hb2.cell (p := ⟨q, 0, none⟩) HQW.out).trans y0; have y21 := (hb2.cell (p := ⟨q, 1, none⟩) HQW.out).trans y1; have q20 := (hb2.cell (p := ⟨g, 0, none⟩) HGW.out).trans q0; have q21 := (hb2.cell (p := ⟨g, 1, none⟩) HGW.out).trans q1; have hbs2 := HB2.out.size; clear hb2))
          rcases (show (¬ yt = xt) ∨ (yt = xt ∧ ¬ yp = xp) ∨ (yt = xt ∧ yp = xp) by omega) with hc | ⟨hc0, hc⟩ | ⟨hc0, hc⟩
          · have hne : ¬ (yt : Int) = (xt : Int) := by omega
            have HNE : Hid (¬ (⟨yt, yp⟩ : En) = ⟨xt, xp⟩) := fun h => hc (by cases h; rfl)
            clear hc
            have HNS : Hid (NS = ((M ++ [⟨xt, xp⟩]) ++ [⟨yt, yp⟩], true)) := by show _ = _; rw [HSX.out, if_neg HNE.out]
            go_wp2_with (at_builtin; refine wpList_append_own _ rfl _ _ 56 rfl W0.heap.size 90 i0 _ 2 16 Try.underlying56 hi hz0 hz1 hz2 rfl (by decide) _ (M.length + 1) _ rfl (HO3.out.alloc _) ⟨w3.heap.size, 0, none⟩ 1 1 [.int .u64 yt, .int .u32 yp] rfl rfl (twoL _ _ _ _) (by first | rfl | (intro z hz; simp at hz; rcases hz with rfl | rfl <;> rfl)) (by first | omega | (simp; omega) | (unfold maxLen; simp; omega) | (unfold maxLen; omega)) (by first | omega | (simp; omega)) (by first | omega | (simp; omega)) ?_; intro v8 w8 hown' hgrow _; have HR8 : Hid (RowE 90 w8 W0.heap.size v8 ((M ++ [⟨xt, xp⟩]) ++ [⟨yt, yp⟩])) := (by show World.ownsRow _ _ _ _ _ _ _; rw [List.flatMap_append, List.length_append, List.length_append, List.flatMap_cons, List.flatMap_nil, List.append_nil]; exact hown'); have HB8 : Hid (Below W0.heap.size W0 w8) := (HB3.out.alloc HB3.out.size _).grown hgrow (by simp; omega) (fun g hg => (HR3.out.lt g hg).1); have sHB8 := HB8.out.size; obtain ⟨a_HR8, c_HR8, hv_HR8⟩ : ∃ a c, v8 = .slice a (M.length + 1 + 1) c := (by obtain ⟨a, c, h⟩ := HR8.out.slice; exact ⟨a, c, by rw [h]; simp⟩); subst hv_HR8; clear hown' hgrow)
            go_roundg (l.length - (k + 1))
            case measure => omega
            case rel => exact ⟨k + 1, _, true, hlt, rfl, by go_num, rfl, rfl, by show _ = _; rw [HS.out, HNS.out], by show RowE _ _ _ _ _; rw [HS.out, HNS.out]; exact HR8.out, HB8⟩
          · subst hc0
            have hne : ¬ (yp : Int) = (xp : Int) := by omega
            have HNE : Hid (¬ (⟨yt, yp⟩ : En) = ⟨yt, xp⟩) := fun h => hc (by cases h; rfl)
            clear hc
            have HNS : Hid (NS = ((M ++ [⟨yt, xp⟩]) ++ [⟨yt, yp⟩], true)) := by show _ = _; rw [HSX.out, if_neg HNE.out]
            go_wp2_with (at_builtin; refine wpList_append_own _ rfl _ _ 56 rfl W0.heap.size 90 i0 _ 2 16 Try.underlying56 hi hz0 hz1 hz2 rfl (by decide) _ (M.length + 1) _ rfl (HO3.out.alloc _) ⟨w3.heap.size, 0, none⟩ 1 1 [.int .u64 yt, .int .u32 yp] rfl rfl (twoL _ _ _ _) (by first | rfl | (intro z hz; simp at hz; rcases hz with rfl | rfl <;> rfl)) (by first | omega | (simp; omega) | (unfold maxLen; simp; omega) | (unfold maxLen; omega)) (by first | omega | (simp; omega)) (by first | omega | (simp; omega)) ?_; intro v8 w8 hown' hgrow _; have HR8 : Hid (RowE 90 w8 W0.heap.size v8 ((M ++ [⟨yt, xp⟩]) ++ [⟨yt, yp⟩])) := (by show World.ownsRow _ _ _ _ _ _ _; rw [List.flatMap_append, List.length_append, List.length_append, List.flatMap_cons, List.flatMap_nil, List.append_nil]; exact hown'); have HB8 : Hid (Below W0.heap.size W0 w8) := (HB3.out.alloc HB3.out.size _).grown hgrow (by simp; omega) (fun g hg => (HR3.out.lt g hg).1); have sHB8 := HB8.out.size; obtain ⟨a_HR8, c_HR8, hv_HR8⟩ : ∃ a c, v8 = .slice a (M.length + 1 + 1) c := (by obtain ⟨a, c, h⟩ := HR8.out.slice; exact ⟨a, c, by rw [h]; simp⟩); subst hv_HR8; clear hown' hgrow)
            go_roundg (l.length - (k + 1))
            case measure => omega
            case rel => exact ⟨k + 1, _, true, hlt, rfl, by go_num, rfl, rfl, by show _ = _; rw [HS.out, HNS.out], by show RowE _ _ _ _ _; rw [HS.out, HNS.out]; exact HR8.out, HB8⟩
          · subst hc0 hc
            have HNS : Hid (NS = ((M ++ [⟨yt, yp⟩]), true)) := by show _ = _; rw [HSX.out, if_pos rfl]
            go_wp2
            go_roundg (l.length - (k + 1))
            case measure => omega
            case rel => exact ⟨k + 1, _, true, hlt, rfl, by go_num, rfl, rfl, by show _ = _; rw [HS.out, HNS.out], by show RowE _ _ _ _ _; rw [HS.out, HNS.out]; exact HR3.out, HB3⟩
    · have hkk : k = l.length := by omega
      have HD5 : Hid ((Ld.wrun ⟨xt, xp⟩ l).2 = d) := by
        have h := HD.out
        rw [hkk, List.take_length] at h
        exact h
      have HR5 : Hid (RowE 90 wr W0.heap.size u (Ld.wrun ⟨xt, xp⟩ l).1) := by
        have h := HR.out
        rw [hkk, List.take_length] at h
        exact h
      rw [hkk, List.take_length] at HLN
      have hln := HLN.out
      have hbs := HB.out.size
      have HWF := Lib.hid (HW0.out.trans (HB.out.mono (Nat.le_of_lt HQL.out)))
      have q0 := (HB.out.cell (p := ⟨g, 0, none⟩) HQL.out).trans HQ0.out
      have q1 := (HB.out.cell (p := ⟨g, 1, none⟩) HQL.out).trans HQ1.out
      cases d with
      | true =>
        have hw : RR = (Ld.wrun ⟨xt, xp⟩ l).1 := by rw [HWL.out, HD5.out]; rfl
        have HW := Lib.hid hw
        obtain ⟨a5, c5, rfl⟩ := HR5.out.slice
        clear hw
        go_wp2
        go_ret
        exact ⟨_, rfl, by rw [HW.out]; exact HR5.out.base (by have := HQL.out; have := HG.out; omega), by rw [HG.out]; exact HWF.out⟩
      | false =>
        have hw : RR = (Ld.wrun ⟨xt, xp⟩ l).1 ++ [⟨xt, xp⟩] := by rw [HWL.out, HD5.out]; rfl
        have HW := Lib.hid hw
        generalize (Ld.wrun ⟨xt, xp⟩ l).1 = M at HR5 hln HW
        clear hw
        go_wp2_with (at_builtin; refine wpList_append_own _ rfl _ _ 56 rfl W0.heap.size 90 i0 _ 2 16 Try.underlying56 hi hz0 hz1 hz2 rfl (by decide) _ (M.length) _ rfl (HR5.out.alloc _) ⟨wr.heap.size, 0, none⟩ 1 1 [.int .u64 xt, .int .u32 xp] rfl rfl (twoL _ _ _ _) (by first | rfl | (intro z hz; simp at hz; rcases hz with rfl | rfl <;> rfl)) (by first | omega | (simp; omega) | (unfold maxLen; simp; omega) | (unfold maxLen; omega)) (by first | omega | (simp; omega)) (by first | omega | (simp; omega)) ?_; intro v6 w6 hown' hgrow _; have HR6 : Hid (RowE 90 w6 W0.heap.size v6 (M ++ [⟨xt, xp⟩])) := (by show World.ownsRow _ _ _ _ _ _ _; rw [List.flatMap_append, List.length_append, List.flatMap_cons, List.flatMap_nil, List.append_nil]; exact hown'); have HB6 : Hid (Below W0.heap.size W0 w6) := (HB.out.alloc HB.out.size _).grown hgrow (by simp; omega) (fun g hg => (HR5.out.lt g hg).1); have sHB6 := HB6.out.size; obtain ⟨a_HR6, c_HR6, hv_HR6⟩ : ∃ a c, v6 = .slice a (M.length + 1) c := (by obtain ⟨a, c, h⟩ := HR6.out.slice; exact ⟨a, c, by rw [h]; simp⟩); subst hv_HR6; clear hown' hgrow)
        go_ret
        exact ⟨_, rfl, by rw [HW.out]; exact HR6.out.base (by have := HQL.out; have := HG.out; omega), by rw [HG.out]; exact HW0.out.trans (HB6.out.mono (Nat.le_of_lt HQL.out))⟩
end Go.Proofs.Ytgckaecjjoghbaa
/- The contracts of the document's Sort of entries, and of rows that are the same. -/
namespace Go.Proofs.Ytgckaecjjoghbaa
open Go.RowKit
open Ld (En)
theorem lSort_any (v : Value) (l : List En) (hl : l.length ≤ 20000) (w : World) (hv : SlE w v l) :
    Calls Try.prog 29 #[v] w (OwnRE (Ld.sortE l) w) := by
  obtain ⟨a, b, o, c, rfl, ha, hx⟩ := hv
  have HX := Lib.hid hx
  have HA := Lib.hid ha
  clear ha hx
  go_enter Try.func29, Try.ntmps29
  go_wp2
  go_loopg [3, 8] l.length (fun n sv i wr => ∃ (k : Nat) (u : Value), k ≤ l.length ∧ n = l.length - k ∧ i = .int .i64 (k : Nat) ∧ u = sv ∧ Hid (RowE 90 wr w.heap.size u (Ld.sortE (l.take k))) ∧ Hid (Below w.heap.size w wr))
  case atStart => exact ⟨0, _, Nat.zero_le _, rfl, rfl, rfl, World.ownsRow_nil _ _ _ _, Below.refl _ _⟩
  case round =>
    obtain ⟨k, u, hk, rfl, rfl, rfl, HR, HB⟩ := hrel
    by_cases hlt : k < l.length
    · obtain ⟨y, hy⟩ := some_at hlt
      obtain rfl : a = some ⟨b, o, none⟩ := HA.out.resolve_left (by intro h; rw [h] at hlt; cases hlt)
      obtain ⟨e0, e1⟩ := HX.out k y hy
      have hblt : b < w.heap.size := World.block_lt_of_cell? _ _ e0
      have d0 := (HB.out.cell (p := ⟨b, o + k * 2, none⟩) hblt).trans e0
      have d1 := (HB.out.cell (p := ⟨b, o + k * 2 + 1, none⟩) hblt).trans e1
      have HS := Lib.hid (Ld.sortE_take hy)
      have HLN : Hid ((Ld.sortE (l.take k)).length ≤ 50000) := by
        have h1 := Ld.sortE_len (l.take k)
        rw [List.length_take] at h1
        show _ ≤ _
        omega
      have HWT := Lib.hid (fun W (hW : SlE W u (Ld.sortE (l.take k))) => lWith_any u (Ld.sortE (l.take k)) y HLN.out W hW)
      generalize Ld.sortE (l.take k) = M at HR HLN HS HWT
      obtain ⟨yt, yp⟩ := y
      clear e0 e1 hy hblt
      go_upto_region 5 with fail
      have HR1 : Hid (RowE 90 (wr.alloc (.cells #[.int .u64 yt, .int .u32 yp] 90)) w.heap.size u M) := HR.out.alloc _
      have HB1 : Hid (Below w.heap.size w (wr.alloc (.cells #[.int .u64 yt, .int .u32 yp] 90))) := HB.out.alloc HB.out.size _
      have y0 : (wr.alloc (.cells #[.int .u64 yt, .int .u32 yp] 90)).cell? ⟨wr.heap.size, 0, none⟩ = some (.int .u64 yt) := World.cell?_alloc_new _ _ _ 0
      have y1 : (wr.alloc (.cells #[.int .u64 yt, .int .u32 yp] 90)).cell? ⟨wr.heap.size, 1, none⟩ = some (.int .u32 yp) := World.cell?_alloc_new _ _ _ 1
      generalize (wr.alloc (.cells #[.int .u64 yt, .int .u32 yp] 90)) = W1 at HR1 HB1 y0 y1 ⊢
      generalize wr.heap.size = q at y0 y1 ⊢
      clear d0 d1
      go_wp2_with (go_at_call 60; refine (HWT.out _ HR1.out.sl).mono ?_; rintro e w2 ⟨v2, rfl, hr2, hb2⟩; have HR2 := Lib.hid (hr2.base HB1.out.size); have HB2 := Lib.hid (HB1.out.trans (hb2.mono HB1.out.size)); clear hr2 hb2)
      go_roundg (l.length - (k + 1))
      case measure => omega
      case rel => exact ⟨k + 1, _, hlt, rfl, by go_num, rfl, by show RowE _ _ _ _ _; rw [HS.out]; exact HR2.out, HB2⟩
    · have hkk : k = l.length := by omega
      have HR5 : Hid (RowE 90 wr w.heap.size u (Ld.sortE l)) := by
        have h := HR.out
        rw [hkk, List.take_length] at h
        exact h
      obtain ⟨a5, c5, rfl⟩ := HR5.out.slice
      go_wp2
      go_ret
      exact ⟨_, rfl, HR5.out, HB.out⟩
/-- Two rows of the same entries are the same. -/
theorem lSame_any (u v : Value) (l : List En) (hl : l.length ≤ 100000) (w : World) (hu : SlE w u l) (hv : SlE w v l) :
    Calls Try.prog 55 #[u, v] w fun e w' => e = .returned (.bool true) ∧ Below w.heap.size w w' := by
  obtain ⟨a, b, o, c, rfl, ha, hx⟩ := hu
  obtain ⟨a', b', o', c', rfl, ha', hx'⟩ := hv
  have HA := Lib.hid ha
  have HX := Lib.hid hx
  have HA' := Lib.hid ha'
  have HX' := Lib.hid hx'
  clear ha hx ha' hx'
  go_enter Try.func55, Try.ntmps55
  go_wp2
  go_loopg [13] l.length (fun n i wr => ∃ k : Nat, k ≤ l.length ∧ n = l.length - k ∧ i = .int .i64 (k : Nat) ∧ Hid (Below w.heap.size w wr))
  case atStart => exact ⟨0, Nat.zero_le _, rfl, rfl, Below.refl _ _⟩
  case round =>
    obtain ⟨k, hk, rfl, rfl, HB⟩ := hrel
    by_cases hlt : k < l.length
    · obtain ⟨y, hy⟩ := some_at hlt
      obtain rfl : a = some ⟨b, o, none⟩ := HA.out.resolve_left (by intro h; rw [h] at hlt; cases hlt)
      obtain rfl : a' = some ⟨b', o', none⟩ := HA'.out.resolve_left (by intro h; rw [h] at hlt; cases hlt)
      obtain ⟨e0, e1⟩ := HX.out k y hy
      obtain ⟨f0, f1⟩ := HX'.out k y hy
      have hblt : b < w.heap.size := World.block_lt_of_cell? _ _ e0
      have hblt' : b' < w.heap.size := World.block_lt_of_cell? _ _ f0
      have d0 := (HB.out.cell (p := ⟨b, o + k * 2, none⟩) hblt).trans e0
      have d1 := (HB.out.cell (p := ⟨b, o + k * 2 + 1, none⟩) hblt).trans e1
      have d2 := (HB.out.cell (p := ⟨b', o' + k * 2, none⟩) hblt').trans f0
      have d3 := (HB.out.cell (p := ⟨b', o' + k * 2 + 1, none⟩) hblt').trans f1
      have hk0 : (0 : Int) ≤ (k : Int) := by omega
      have hk1 : (k : Int) < (l.length : Int) := by omega
      clear e0 e1 f0 f1 hy hblt hblt'
      go_wp2_with fail
      go_quiet (fail)
      all_goals go_wp2
      go_roundg (l.length - (k + 1))
      case measure => omega
      case rel => exact ⟨k + 1, hlt, rfl, by go_num, by first | exact HB | exact Lib.hid (HB.out.drewN _) | exact Lib.hid ⟨HB.out.os, HB.out.tape, HB.out.output, HB.out.size, HB.out.block⟩⟩
    · have hkk : k = l.length := by omega
      go_wp2
      go_ret
      exact ⟨rfl, HB.out⟩
theorem ldSame_any (u v : Value) (l : List En) (hl : l.length ≤ 50000) (w : World) (hu : SlE w u l) (hv : SlE w v l) :
    Calls Try.prog 27 #[u, v] w fun e w' => e = .returned (.bool true) ∧ Below w.heap.size w w' := by
  have HT := Lib.hid (ldTo_any u l (by omega) w hu)
  have HS := Lib.hid (fun u' W (h1 : SlE W u' l) (h2 : SlE W v l) => lSame_any u' v l (by omega) W h1 h2)
  have HV := Lib.hid hv
  obtain ⟨a, b, o, c, rfl, _, _⟩ := hu
  obtain ⟨a', b', o', c', rfl, _, _⟩ := hv
  go_enter Try.func27, Try.ntmps27
  go_wp2_with (first
    | (go_at_call 26; refine HT.out.mono ?_; rintro e w1 ⟨v1, rfl, hr1, hb1⟩; have HR1 := Lib.hid hr1; have HB1 := Lib.hid hb1; obtain ⟨a1, c1, rfl⟩ := hr1.slice; clear hr1 hb1)
    | (go_at_call 55; refine (HS.out _ _ HR1.out.sl (HV.out.below HB1.out)).mono ?_; rintro e w2 ⟨rfl, hb2⟩; have HB2 := Lib.hid (HB1.out.trans (hb2.mono HB1.out.size)); clear hb2))
  go_ret
  exact ⟨rfl, HB2.out⟩
end Go.Proofs.Ytgckaecjjoghbaa
/- The library's contract for slices.SortFunc, laid at this program's numbers by the guide's own tool. -/
namespace Go.Proofs
open Go.Shelf
def Try.sortG_ren : Go.Shelf.Ren := ⟨fun | 6 => 57 | 15 => 64 | 14 => 76 | 28 => 87 | 29 => 88 | 20 => 94 | 21 => 95 | 22 => 96 | 23 => 97 | 24 => 98 | 25 => 99 | 26 => 100 | 27 => 101 | 46 => 111 | 47 => 104 | 48 => 105 | 49 => 112 | 50 => 113 | 57 => 115 | n => n, fun | 22 => 45 | 24 => 62 | 25 => 93 | 3 => 3 | 39 => 99 | 0 => 0 | 53 => 24 | 55 => 47 | 4 => 4 | 46 => 121 | 45 => 120 | 50 => 78 | 5 => 5 | 9 => 9 | 66 => 136 | 70 => 140 | 76 => 147 | 77 => 148 | n => n, fun | n => n⟩
theorem Try.sortG : Go.Proofs.SlLaysF0.n6 Try.prog Try.sortG_ren := {
  mixed := by kernel_rfl
  f6 := ⟨Try.f57.name, by decide, Try.func57.trans (congrArg some (by kernel_rfl))⟩
  f14 := ⟨Try.f76.name, by decide, Try.func76.trans (congrArg some (by kernel_rfl))⟩
  f15 := Try.func64.trans (congrArg some (by kernel_rfl))
  f20 := ⟨Try.f94.name, by decide, Try.func94.trans (congrArg some (by kernel_rfl))⟩
  f21 := ⟨Try.f95.name, by decide, Try.func95.trans (congrArg some (by kernel_rfl))⟩
  f22 := ⟨Try.f96.name, by decide, Try.func96.trans (congrArg some (by kernel_rfl))⟩
  f23 := ⟨Try.f97.name, by decide, Try.func97.trans (congrArg some (by kernel_rfl))⟩
  f24 := ⟨Try.f98.name, by decide, Try.func98.trans (congrArg some (by kernel_rfl))⟩
  f25 := ⟨Try.f99.name, by decide, Try.func99.trans (congrArg some (by kernel_rfl))⟩
  f26 := ⟨Try.f100.name, by decide, Try.func100.trans (congrArg some (by kernel_rfl))⟩
  f27 := ⟨Try.f101.name, by decide, Try.func101.trans (congrArg some (by kernel_rfl))⟩
  f28 := Try.func87.trans (congrArg some (by kernel_rfl))
  f29 := Try.func88.trans (congrArg some (by kernel_rfl))
  f46 := ⟨Try.f111.name, by decide, Try.func111.trans (congrArg some (by kernel_rfl))⟩
  f47 := Try.func104.trans (congrArg some (by kernel_rfl))
  f48 := Try.func105.trans (congrArg some (by kernel_rfl))
  f49 := ⟨Try.f112.name, by decide, Try.func112.trans (congrArg some (by kernel_rfl))⟩
  f50 := ⟨Try.f113.name, by decide, Try.func113.trans (congrArg some (by kernel_rfl))⟩
  f57 := ⟨Try.f115.name, by decide, Try.func115.trans (congrArg some (by kernel_rfl))⟩
  t0 := Try.underlying0
  a0 := Try.isAgg0
  z0 := Try.sizeOf0
  v0 := Try.zeroValue0
  t3 := Try.underlying3
  a3 := Try.isAgg3
  z3 := Try.sizeOf3
  v3 := Try.zeroValue3
  t4 := Try.underlying4
  a4 := Try.isAgg4
  z4 := Try.sizeOf4
  v4 := Try.zeroValue4
  t5 := Try.underlying5
  a5 := Try.isAgg5
  z5 := Try.sizeOf5
  v5 := Try.zeroValue5
  t9 := Try.underlying9
  a9 := Try.isAgg9
  z9 := Try.sizeOf9
  v9 := Try.zeroValue9
  t22 := Try.underlying45
  a22 := Try.isAgg45
  z22 := Try.sizeOf45
  v22 := Try.zeroValue45
  t25 := Try.underlying93
  a25 := Try.isAgg93
  z25 := Try.sizeOf93
  v25 := Try.zeroValue93
  t39 := Try.underlying99
  a39 := Try.isAgg99
  z39 := Try.sizeOf99
  v39 := Try.zeroValue99
  t45 := Try.underlying120
  a45 := Try.isAgg120
  z45 := Try.sizeOf120
  v45 := Try.zeroValue120
  t46 := Try.underlying121
  a46 := Try.isAgg121
  z46 := Try.sizeOf121
  v46 := Try.zeroValue121
  t50 := Try.underlying78
  a50 := Try.isAgg78
  z50 := Try.sizeOf78
  v50 := Try.zeroValue78
  t53 := Try.underlying24
  a53 := Try.isAgg24
  z53 := Try.sizeOf24
  v53 := Try.zeroValue24
  t55 := Try.underlying47
  a55 := Try.isAgg47
  z55 := Try.sizeOf47
  v55 := Try.zeroValue47
  t66 := Try.underlying136
  a66 := Try.isAgg136
  z66 := Try.sizeOf136
  v66 := Try.zeroValue136
  t70 := Try.underlying140
  a70 := Try.isAgg140
  z70 := Try.sizeOf140
  v70 := Try.zeroValue140
  t76 := Try.underlying147
  a76 := Try.isAgg147
  z76 := Try.sizeOf147
  v76 := Try.zeroValue147
  t77 := Try.underlying148
  a77 := Try.isAgg148
  z77 := Try.sizeOf148
  v77 := Try.zeroValue148 }
end Go.Proofs
/- The contract of slices.SortFunc at entries. -/
namespace Go.Proofs.Ytgckaecjjoghbaa
open Go.RowKit Go.Sort
open Ld (En)
instance : Inhabited En := ⟨⟨0, 0⟩⟩
theorem flatK_list (d : Array En) : (flatK cellsE 2 d).toList = d.toList.flatMap cellsE := by
  apply List.ext_getElem?
  intro t
  by_cases ht : t < d.size * 2
  · have h2 : t / 2 < d.size := by omega
    have h3 := flat_at cellsE 2 cellsE_len d.toList (t / 2) (t % 2) d[t / 2] (by rw [Array.getElem?_toList, Array.getElem?_eq_getElem h2]) (by omega)
    rw [show t / 2 * 2 + t % 2 = t by omega] at h3
    rw [h3, Array.getElem?_toList]
    have h4 := get_flatK cellsE 2 d t ht
    rw [getElem!_pos _ t (by rw [size_flatK]; exact ht), getElem!_pos d _ h2] at h4
    rw [Array.getElem?_eq_getElem (by rw [size_flatK]; exact ht), h4]
    have h5 : t % 2 < (cellsE d[t / 2]).length := by rw [cellsE_len]; omega
    rw [List.getElem?_eq_getElem h5, getElem!_pos (cellsE d[t / 2]) (t % 2) h5]
  · rw [List.getElem?_eq_none (by rw [Array.length_toList, size_flatK]; omega), List.getElem?_eq_none (by rw [flat_len cellsE 2 cellsE_len, Array.length_toList]; omega)]
theorem heap_sortedI {w : World} {g n : Nat} {os : Array Obj} {cur : Array Value} {e : TypeId} {fr : Nat × Nat} (F : Array Value) (hb : w.heap[g]? = some (.cells cur e fr)) :
    (grow (putRow id (Sort.ahead w n) g 0 F) os).heap[g]? = some (.cells (putCells id 0 F cur) e fr) := by
  have hg : g < w.heap.size := (Array.getElem?_eq_some_iff.1 hb).1
  rw [heap_grow_old _ _ (by simpa using hg)]
  simp [putRow, mapBlock, Sort.ahead, Array.getElem?_modify, hb, onCells]
theorem below_sortedI {w : World} {B g n : Nat} {os : Array Obj} (F : Array Value) (hB : B ≤ g) (hg : g < w.heap.size) : Below B w (grow (putRow id (Sort.ahead w n) g 0 F) os) := by
  refine ⟨rfl, rfl, rfl, by simp [grow, putRow, mapBlock, Sort.ahead], fun k hk => ?_⟩
  rw [heap_grow_old _ _ (by simp [putRow, mapBlock, Sort.ahead]; omega)]
  have : g ≠ k := by omega
  simp [putRow, mapBlock, Sort.ahead, Array.getElem?_modify, this]
theorem take_putI (cur F : Array Value) (h : F.size ≤ cur.size) : (putCells id 0 F cur).toList.take F.size = F.toList := by
  apply List.ext_getElem?
  intro j
  by_cases hj : j < F.size
  · rw [List.getElem?_take_of_lt hj, Array.getElem?_toList]
    simp [putCells, hj, show j < cur.size by omega]
  · rw [List.getElem?_take_eq_none (by omega), List.getElem?_eq_none (by simp; omega)]
theorem cmp_swo : SWO (ltOf Ld.cmp) where
  irrefl x := by show decide _ = _; rw [Ld.cmp_neg]; exact Ld.ahead_irr x
  trans x y z h1 h2 := by
    change decide _ = _ at h1 h2
    show decide _ = _
    rw [Ld.cmp_neg] at *
    exact Ld.ahead_trans h1 h2
  ntrans x y z h1 h2 := by
    change decide _ = _ at h1 h2
    show decide _ = _
    rw [Ld.cmp_neg] at *
    rw [Ld.ahead_no] at *
    omega
theorem sortF_any (v : Value) (l : List En) (hl : l.length ≤ 100000) (B : Nat) (w : World) (hr : RowE 62 w B v l) :
    Calls Try.prog 57 #[v, .func (.func 58) #[] #[]] w fun e w' => e = .returned (.tuple #[]) ∧ ∃ m : List En, RowE 62 w' B v m ∧ m.Perm l ∧ (m.Pairwise fun a b => Ld.ahead b a = false) ∧ Below B w w' := by
  have h0 : w.ownsRow B 62 2 v l.length (l.flatMap cellsE) := hr
  by_cases hl0 : l = []
  · subst hl0
    obtain ⟨a, c, rfl⟩ := hr.slice
    exact (AnyF.slices_SortFunc_none Try.sortG a c (.func (.func 58) #[] #[]) w).mono fun e w' h => ⟨h.1, [], by rw [h.2]; exact hr, .refl _, .nil, by rw [h.2]; exact Below.refl _ _⟩
  · rcases h0.2 with ⟨rfl, hz⟩ | ⟨g, cap, cur, rfl, hB, hb, hc1, hc2, hc3, hc4⟩
    · exact absurd (List.length_eq_zero_iff.1 hz) hl0
    · have hg : g < w.heap.size := (Array.getElem?_eq_some_iff.1 hb).1
      have hF := flatK_list l.toArray
      have hsz : (flatK cellsE 2 l.toArray).size = l.length * 2 := by rw [size_flatK]; rfl
      have hH : HoldsK cellsE 2 w g 0 l.toArray := by
        intro j hj
        rw [hsz] at hj
        refine ⟨?_, by simp [World.frozen?, hb]⟩
        have h1 : (cur.toList.take (l.length * 2))[j]? = ((flatK cellsE 2 l.toArray).toList)[j]? := by rw [hc4, hF]
        rw [List.getElem?_take_of_lt hj, Array.getElem?_toList, Array.getElem?_toList] at h1
        simp only [World.cell?, hb, Nat.zero_add]
        simp only [Option.isSome_none, Bool.false_eq_true, if_false]
        rw [h1, Array.getElem?_eq_getElem (by rw [hsz]; exact hj), getElem!_pos _ _ (by rw [hsz]; exact hj)]
        rfl
      have eg : ∀ args w, (callFunc 58 args).run Try.prog w = .ok (.enter 58 args) w := enters_of Try.func58 (by kernel_rfl) rfl
      have hcmp : CmpLays Try.prog 58 #[] cellsE 2 Ld.cmp g 0 l.toArray.size w := fun _ _ _ _ x y => ldCompare_any x y _
      have hcon := AnyQ.slices_SortFunc_total Try.sortG 2 Try.isAgg62 Try.sizeOf62 cellsE (fun _ => rfl) cellsE_one Ld.cmp cmp_swo 58 #[] g 0 cap l.toArray w eg hcmp hH hg (by simp; omega) (fun x y h1 h2 => by
        change decide _ = _ at h1 h2
        rw [Ld.cmp_neg] at h1 h2
        by_cases hxy : x = y
        · exact hxy
        · have := Ld.ahead_tot h1 hxy
          rw [h2] at this; cases this)
      refine Calls.mono hcon fun e w' h => ?_
      obtain ⟨he, n, os, hw⟩ := h
      have hle : (fun x y => !(ltOf Ld.cmp) y x) = fun x y => !(Ld.ahead y x) := by
        funext x y
        show (!decide _) = _
        rw [Ld.cmp_neg]
      rw [hle] at hw
      have hperm := List.mergeSort_perm l (fun x y => !(Ld.ahead y x))
      have hsort := List.pairwise_mergeSort (le := fun x y => !(Ld.ahead y x)) (fun a b c h1 h2 => by
        simp only [Bool.not_eq_true', Ld.ahead_no] at *; omega) (fun a b => by
        cases h1 : Ld.ahead b a
        · rfl
        · rw [Ld.ahead_asym h1]; rfl) l
      have hml : (l.mergeSort (fun x y => !(Ld.ahead y x))).length = l.length := hperm.length_eq
      change w' = grow (putRow id (Sort.ahead w n) g 0 (flatK cellsE 2 (l.mergeSort (fun x y => !(Ld.ahead y x))).toArray)) os at hw
      generalize l.mergeSort (fun x y => !(Ld.ahead y x)) = m at hw hperm hsort hml
      have hF2 := flatK_list m.toArray
      have hsz2 : (flatK cellsE 2 m.toArray).size = l.length * 2 := by rw [size_flatK, ← hml]; rfl
      subst hw
      refine ⟨he, m, ?_, hperm, hsort.imp (fun h => by simpa using h), below_sortedI _ hB hg⟩
      show World.ownsRow _ _ _ _ _ _ _
      rw [hml]
      refine ⟨by rw [flat_len cellsE 2 cellsE_len, hml], .inr ⟨g, cap, _, rfl, hB, heap_sortedI _ hb, hc1, hc2, by simp [putCells, hc3], ?_⟩⟩
      rw [← hsz2, take_putI _ _ (by rw [hsz2, hc3]; exact Nat.mul_le_mul_right _ hc1), hF2]
end Go.Proofs.Ytgckaecjjoghbaa
/- Copying, clearing and shifting rows of structs in a block that is known whole. -/
namespace Go.Proofs.Ytgckaecjjoghbaa
open Go.RowKit
section
variable {P : Program}
theorem run_copy_rowS (w : World) (dT sT ty elem : TypeId) (S : Nat) (g o dLen dCap : Nat) (a : Addr) (sLen sCap : Nat) (cur : Array Value) (t : TypeId) (cs : List Value)
    (hu : P.underlying dT = some (.slice elem)) (hs : (P.info? elem).map (·.size) = some S)
    (hg : w.heap[g]? = some (.cells cur t (0, 0))) (hn : cs.length = Nat.min sLen dLen * S)
    (hsrc : ∀ j v, cs[j]? = some v → w.cell? (a.add j) = some v) (hfit : o + cs.length ≤ cur.size) (h1 : ∀ v ∈ cs, v.oneCell' = true) :
    (Builtin.copy_ #[dT, sT] ty #[.slice (some ⟨g, o, none⟩) dLen dCap, .slice (some a) sLen sCap]).run P w =
      .ok (goInt (Nat.min sLen dLen)) (w.setRow g (cur.toList.take o ++ cs ++ cur.toList.drop (o + cs.length)).toArray) := by
  have hl := run_loadCells_list (P := P) w a cs hsrc
  have hst := run_storeCells_at P g o t cs 0 cur w hg (by simpa using hfit) h1
  cases hq : P.info? elem with
  | none => simp [hq] at hs
  | some i =>
    have hi : i.size = S := by simpa [hq] using hs
    simp [Builtin.copy_, run_underlying hu, Builtin.lenOf, Builtin.firstCells, sizeOf, typeInfo, hq, hi, ← hn, hl, hst]
theorem setCells_row (g : Nat) (t : TypeId) : ∀ (vs : List Value) (o : Nat) (cur : Array Value) (w : World), w.heap[g]? = some (.cells cur t (0, 0)) → o + vs.length ≤ cur.size →
    w.setCells g o vs = w.setRow g (cur.toList.take o ++ vs ++ cur.toList.drop (o + vs.length)).toArray
  | [], o, cur, w, hg, _ => by
    simp only [World.setCells, List.append_nil, List.length_nil, Nat.add_zero, List.take_append_drop, Array.toArray_toList]
    rw [setRow_self w g cur t (0, 0) hg]
  | v :: rest, o, cur, w, hg, hl => by
    have ih := setCells_row g t rest (o + 1) (cur.setIfInBounds o v) (w.setRow g (cur.setIfInBounds o v)) (setRow_heap w g cur _ t _ hg) (by simp at hl ⊢; omega)
    rw [World.setCells, setCell_eq_setRow w g o cur t (0, 0) v hg, ih, setRow_setRow]
    congr 2
    have e := list_seg_step cur.toList o v rest (by simp at hl ⊢; omega)
    simpa [Array.toList_setIfInBounds] using e
/-- 'clear(s)', s of one element of several cells. -/
theorem run_clear_one (w : World) (t e ty : TypeId) (z : Value) (zs : List Value) (hz : z.cells = zs.toArray) (ht : P.underlying t = some (.slice e)) (hv : ∀ w, (zeroValue e).run P w = .ok z w) (h1 : ∀ v ∈ zs, v.oneCell' = true) (b o c : Nat)
    (hc : ∀ j, j < zs.length → (w.cell? ⟨b, o + j, none⟩).isSome = true) (hf : ∀ j, j < zs.length → w.frozen? ⟨b, o + j, none⟩ = false) :
    (Builtin.clear_ #[t] ty #[.slice (some ⟨b, o, none⟩) 1 c]).run P w = .ok (.tuple #[]) (w.setCells b o zs) := by
  have hzc : (Builtin.zeroCells z.cells 1).toList = zs := by
    rw [hz]
    simp only [Builtin.zeroCells, Nat.one_mul, Array.toList_map, Array.toList_range, List.size_toArray]
    apply List.ext_getElem
    · simp
    · intro i h1 h2
      have hi : i < zs.length := by simpa using h2
      simp [Nat.mod_eq_of_lt hi, hi]
  have hst := run_storeCells_cells (P := P) b o zs 0 w (by simpa using hc) (by simpa using hf) h1
  simp only [Nat.add_zero] at hst
  simp [Builtin.clear_, run_underlying ht, hv, hzc, hst]
end
theorem seg_ins (I N S : Nat) (cur xs vs : List Value) (hI : I ≤ N) (hx : cur.take N = xs) (hN : N + S ≤ cur.length) (hv : vs.length = S) :
    (((cur.take (I + S) ++ xs.drop I ++ cur.drop (I + S + (xs.drop I).length)).take I ++ vs ++ (cur.take (I + S) ++ xs.drop I ++ cur.drop (I + S + (xs.drop I).length)).drop (I + vs.length)).take (N + S) = xs.take I ++ vs ++ xs.drop I) := by
  have hxl : xs.length = N := by rw [← hx, List.length_take]; omega
  have h1 : (cur.take (I + S)).length = I + S := by rw [List.length_take]; omega
  have h2 : (cur.take (I + S) ++ xs.drop I ++ cur.drop (I + S + (xs.drop I).length)).take I = xs.take I := by
    rw [List.append_assoc, List.take_append_of_le_length (by omega), List.take_take, ← hx, List.take_take, Nat.min_eq_left (by omega), Nat.min_eq_left (by omega)]
  have h3 : (cur.take (I + S) ++ xs.drop I ++ cur.drop (I + S + (xs.drop I).length)).drop (I + vs.length) = xs.drop I ++ cur.drop (I + S + (xs.drop I).length) := by
    rw [hv, List.append_assoc, List.drop_append_of_le_length (by omega), List.drop_of_length_le (by omega), List.nil_append]
  rw [h2, h3, ← List.append_assoc, List.take_append_of_le_length (by simp only [List.length_append, List.length_take, List.length_drop]; omega), List.take_of_length_le (by simp only [List.length_append, List.length_take, List.length_drop]; omega)]
theorem seg_ins_len (I N S : Nat) (cur xs vs : List Value) (hI : I ≤ N) (hx : cur.take N = xs) (hN : N + S ≤ cur.length) (hv : vs.length = S) :
    ((cur.take (I + S) ++ xs.drop I ++ cur.drop (I + S + (xs.drop I).length)).take I ++ vs ++ (cur.take (I + S) ++ xs.drop I ++ cur.drop (I + S + (xs.drop I).length)).drop (I + vs.length)).length = cur.length := by
  have hxl : xs.length = N := by rw [← hx, List.length_take]; omega
  simp only [List.length_append, List.length_take, List.length_drop]; omega
/-- The other order: what is put in first, then what stood behind. -/
theorem seg_ins2 (I N S : Nat) (cur xs vs : List Value) (hI : I ≤ N) (hxl : xs.length = N) (hx : cur.take I = xs.take I) (hN : N + S ≤ cur.length) (hv : vs.length = S) :
    ((cur.take I ++ vs ++ cur.drop (I + vs.length)).take (I + S) ++ xs.drop I ++ (cur.take I ++ vs ++ cur.drop (I + vs.length)).drop (I + S + (xs.drop I).length)).take (N + S) = xs.take I ++ vs ++ xs.drop I := by
  have h1 : (cur.take I).length = I := by rw [List.length_take]; omega
  have h2 : (cur.take I ++ vs ++ cur.drop (I + vs.length)).take (I + S) = xs.take I ++ vs := by
    rw [List.take_append_of_le_length (by rw [List.length_append]; omega), List.take_of_length_le (by rw [List.length_append]; omega), hx]
  rw [h2, List.take_append_of_le_length (by simp only [List.length_append, List.length_take, List.length_drop]; omega), List.take_of_length_le (by simp only [List.length_append, List.length_take, List.length_drop]; omega)]
theorem seg_ins2_len (I N S : Nat) (cur xs vs : List Value) (hI : I ≤ N) (hxl : xs.length = N) (hN : N + S ≤ cur.length) (hv : vs.length = S) :
    ((cur.take I ++ vs ++ cur.drop (I + vs.length)).take (I + S) ++ xs.drop I ++ (cur.take I ++ vs ++ cur.drop (I + vs.length)).drop (I + S + (xs.drop I).length)).length = cur.length := by
  simp only [List.length_append, List.length_take, List.length_drop]; omega
theorem seg_del (I N S : Nat) (cur xs zs : List Value) (hI : I + S ≤ N) (hx : cur.take N = xs) (hN : N ≤ cur.length) (hz : zs.length = S) :
    (((cur.take I ++ xs.drop (I + S) ++ cur.drop (I + (xs.drop (I + S)).length)).take (N - S) ++ zs ++ (cur.take I ++ xs.drop (I + S) ++ cur.drop (I + (xs.drop (I + S)).length)).drop (N - S + zs.length)).take (N - S) = xs.take I ++ xs.drop (I + S)) := by
  have hxl : xs.length = N := by rw [← hx, List.length_take]; omega
  have h1 : (cur.take I ++ xs.drop (I + S)).length = N - S := by simp only [List.length_append, List.length_take, List.length_drop]; omega
  have h2 : (cur.take I ++ xs.drop (I + S) ++ cur.drop (I + (xs.drop (I + S)).length)).take (N - S) = xs.take I ++ xs.drop (I + S) := by
    rw [List.take_append_of_le_length (by omega), List.take_of_length_le (by omega), ← hx, List.take_take, Nat.min_eq_left (by omega)]
  rw [h2, List.append_assoc, List.take_append_of_le_length (by simp only [List.length_append, List.length_take, List.length_drop]; omega), List.take_of_length_le (by simp only [List.length_append, List.length_take, List.length_drop]; omega)]
theorem seg_del_len (I N S : Nat) (cur xs zs : List Value) (hI : I + S ≤ N) (hx : cur.take N = xs) (hN : N ≤ cur.length) (hz : zs.length = S) :
    ((cur.take I ++ xs.drop (I + S) ++ cur.drop (I + (xs.drop (I + S)).length)).take (N - S) ++ zs ++ (cur.take I ++ xs.drop (I + S) ++ cur.drop (I + (xs.drop (I + S)).length)).drop (N - S + zs.length)).length = cur.length := by
  have hxl : xs.length = N := by rw [← hx, List.length_take]; omega
  simp only [List.length_append, List.length_take, List.length_drop]; omega
theorem owns_setRow {w : World} {g B e S cap n' : Nat} {cur : Array Value} {l : List Value} {xs' : List Value} (hg : w.heap[g]? = some (.cells cur e (0, 0))) (hB : B ≤ g) (hn' : n' ≤ cap) (hcap : cap ≤ maxLen) (hsz : l.length = cap * S) (hx : xs'.length = n' * S) (ht : l.take (n' * S) = xs') :
    (w.setRow g l.toArray).ownsRow B e S (.slice (some ⟨g, 0, none⟩) n' cap) n' xs' :=
  ⟨hx, .inr ⟨g, cap, l.toArray, rfl, hB, setRow_heap w g cur _ e _ hg, hn', hcap, by simpa using hsz, by simpa using ht⟩⟩
end Go.Proofs.Ytgckaecjjoghbaa
