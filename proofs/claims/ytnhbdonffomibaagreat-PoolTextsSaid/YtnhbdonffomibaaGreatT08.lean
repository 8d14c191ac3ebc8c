/- Texts of one seat, merged. -/
import Derived.Test.YtnhbdonffomibaaGreatT07
import Derived.Maps.AppendAt
import Derived.Deep.DeepMust
import Derived.Test.YtnhbdonffomibaaGreatT04
import Derived.Deep.LoopGhost
import Derived.BigQuiet
import Derived.Deep.DeepCutAuto
import Derived.Deep.QuietTactic
import Derived.Deep.RegionWith
set_option maxRecDepth 100000
set_option maxHeartbeats 4000000
set_option linter.unusedVariables false
/- The contract of slices.Insert of one cell, at a row of one's own: at its end, and where there is no room. -/
namespace Go.Proofs.YtnhbdonffomibaaGreat
open Go.RowKit
open Sl (Cl Kd)
theorem insertU_end (B vb vc : Nat) (v : Value) (l : List Nat) (x : Nat) (T : TypeId) (w : World) (hv : RowU w B v l) (hB : B ≤ w.heap.size) (hl : l.length ≤ 100000) (hvb : w.heap[vb]? = some (.cells (cellsU x).toArray T (0, 0))) :
    Calls Tryz.prog 64 #[v, .int .i64 l.length, .slice (some ⟨vb, 0, none⟩) 1 vc] w (InsOutU B v (l ++ [x]) w) := by
  obtain ⟨i0, hi0, hz0, hz1, hz2⟩ := info_parts infoU
  have HOWN := Lib.hid hv
  have HLO := Lib.hid (fun k hk => (World.ownsRow.lt hv k hk).1)
  have HF := Lib.hid (flatAtU x vb T w hvb)
  have HXL := Lib.hid (show (cellsU x).length = 1 * 1 from cellsU_len x)
  have HX1 := Lib.hid (fun u hu => cellsU_one x u hu)
  have HFIN : Hid (∀ v' w1, w1.ownsRow B 40 1 v' (l.length + 1) (l.flatMap cellsU ++ cellsU x) → RowU w1 B v' (l ++ [x])) := fun v' w1 h => by
    show World.ownsRow _ _ _ _ _ _ _
    rw [List.length_append, List.flatMap_append]
    simpa using h
  obtain ⟨_, h1⟩ := hv
  rcases h1 with ⟨rfl, h0⟩ | ⟨g, cap, cur, rfl, hg, _, hn, hm, _, _⟩
  · obtain rfl : l = [] := List.length_eq_zero_iff.1 h0
    clear hvb
    go_enter Tryz.func64, Tryz.ntmps64
    go_wp2_with (at_builtin; refine wpList_append_own_at _ rfl _ _ 41 rfl B 40 i0 _ 1 4 Tryz.underlying41 hi0 hz0 hz1 hz2 rfl (by decide) _ 0 _ rfl HOWN.out ⟨vb, 0, none⟩ 1 vc (cellsU x) rfl HXL.out HF.out HX1.out (by unfold maxLen; omega) (by omega) hB ?_)
    intro v' w1 hown hgrow _ hat
    go_wp2
    go_ret
    exact ⟨_, rfl, HFIN.out _ _ hown, (Below.refl _ _).grown hgrow hB (fun k hk => by simp [Value.ownBlock] at hk), fun k hk hlt => hgrow.block k hlt (fun e => hk e.symm), hat.imp id (fun h => ⟨_, h, Nat.le_refl _⟩)⟩
  · unfold maxLen at hm
    clear hvb
    by_cases hcn : cap = l.length
    all_goals
      try subst hcn
      go_enter Tryz.func64, Tryz.ntmps64
      go_wp2_with (at_builtin; refine wpList_append_own_at _ rfl _ _ 41 rfl B 40 i0 _ 1 4 Tryz.underlying41 hi0 hz0 hz1 hz2 rfl (by decide) _ l.length _ rfl HOWN.out ⟨vb, 0, none⟩ 1 vc (cellsU x) rfl HXL.out HF.out HX1.out (by unfold maxLen; omega) (by omega) hB ?_)
      intro v' w1 hown hgrow _ hat
      go_wp2
      go_ret
      exact ⟨_, rfl, HFIN.out _ _ hown, (Below.refl _ _).grown hgrow hB HLO.out, fun k hk hlt => hgrow.block k hlt (fun e => hk e.symm), hat.imp id (fun h => ⟨_, h, Nat.le_refl _⟩)⟩
theorem zeros_lenU (z : Array Value) (n : Nat) : (Builtin.zeroCells z n).size = n * z.size := by simp [Builtin.zeroCells]
set_option maxHeartbeats 8000000 in
theorem insertU_grow (B g cap i vb vc : Nat) (cur : Array Value) (l : List Nat) (x : Nat) (T : TypeId) (w : World) (hi : i < l.length) (hnc : l.length ≤ cap) (hroom : ¬ l.length + 1 ≤ cap) (hl : l.length ≤ 100000) (hB : B ≤ w.heap.size) (hg : w.heap[g]? = some (.cells cur 40 (0, 0))) (htk : cur.toList.take (l.length * 1) = l.flatMap cellsU) (hvb : w.heap[vb]? = some (.cells (cellsU x).toArray T (0, 0))) :
    Calls Tryz.prog 64 #[.slice (some ⟨g, 0, none⟩) l.length cap, .int .i64 i, .slice (some ⟨vb, 0, none⟩) 1 vc] w (InsOutU B (.slice (some ⟨g, 0, none⟩) l.length cap) (l.take i ++ x :: l.drop i) w) := by
  obtain ⟨i0, hi0, hz0, hz1, hz2⟩ := info_parts infoU
  obtain rfl : cap = l.length := by omega
  obtain ⟨z, hzz, hzs⟩ : ∃ z, i0.zero = some z ∧ z.cells.size = 1 := ⟨_, hz0, rfl⟩
  have hs1 : (Tryz.prog.info? 40).map (·.size) = some 1 := by rw [hi0]; simp [hz1]
  have hflen : (l.flatMap cellsU).length = l.length * 1 := flat_len _ _ cellsU_len _
  have hxl := cellsU_len x
  have hglt : g < w.heap.size := (Array.getElem?_eq_some_iff.1 hg).1
  have hvlt : vb < w.heap.size := (Array.getElem?_eq_some_iff.1 hvb).1
  have hrow : ∀ k, ∀ j u, ((l.flatMap cellsU).drop (k * 1))[j]? = some u → w.cell? ((⟨g, k * 1, none⟩ : Addr).add j) = some u := rowAtU w g cur l hg htk
  have hold : (Builtin.firstCells i0.size i (.slice (some ⟨g, 0, none⟩) i l.length)).run Tryz.prog w.drew = .ok ((l.flatMap cellsU).take (i * 1)).toArray w.drew := by
    rw [hz1]
    exact run_firstCells_some w.drew 1 i ⟨g, 0, none⟩ i l.length ((l.flatMap cellsU).take (i * 1)) (by rw [List.length_take, hflen]; omega) (fun j u hj => by
      have hj2 := (List.getElem?_eq_some_iff.1 hj).1
      rw [List.length_take] at hj2
      rw [List.getElem?_take_of_lt (by omega)] at hj
      exact hrow 0 j u (by rw [Nat.zero_mul, List.drop_zero]; exact hj))
  obtain ⟨G, hG⟩ : ∃ G, G = grownCap w (l.length + 1) l.length 40 := ⟨_, rfl⟩
  have hrz : ∀ ty, (Builtin.append_ #[41, 3] ty #[.slice (some ⟨g, 0, none⟩) i l.length, .int .i64 ((l.length : Int) + 1 - (i : Int))]).run Tryz.prog w =
      .ok (.slice (some ⟨w.heap.size, 0, none⟩) (l.length + 1) G) (w.drew.alloc (.cells (((l.flatMap cellsU).take (i * 1)).toArray ++ Builtin.zeroCells z.cells (l.length + 1 - i) ++ Builtin.zeroCells z.cells (G - (l.length + 1))) 40)) := fun ty => by
    have hik : i + (l.length + 1 - i) = l.length + 1 := by omega
    have h := Lib.run_append_grow_zeros w 41 3 ty 40 i0 _ .i64 .i64 Tryz.underlying41 Tryz.underlying3 hi0 hzz (some ⟨g, 0, none⟩) i l.length _ hold (l.length + 1 - i) (by omega) (by rw [hz1]; decide) (by omega) (by omega) (by rw [hz2]; omega) (by rw [hz2, hik]; exact growslice_fits (by omega) (by omega))
    rw [hik, ← hG] at h
    rw [show (l.length : Int) + 1 - (i : Int) = ((l.length + 1 - i : Nat) : Int) by omega]
    exact h
  obtain ⟨R0, hR0⟩ : ∃ R0 : Array Value, R0 = ((l.flatMap cellsU).take (i * 1)).toArray ++ Builtin.zeroCells z.cells (l.length + 1 - i) ++ Builtin.zeroCells z.cells (G - (l.length + 1)) := ⟨_, rfl⟩
  rw [← hR0] at hrz
  have hGn : l.length + 1 ≤ G := by rw [hG]; exact grownCap_ge w _ _ _
  have hGm : G ≤ maxLen := by rw [hG]; exact grownCap_le_maxLen w (l.length + 1) l.length 40 (by unfold maxLen; omega)
  have hR0l : R0.toList.length = G * 1 := by
    rw [hR0]
    simp only [Array.toList_append, List.length_append, Array.length_toList, zeros_lenU, hzs, List.length_take, hflen]
    omega
  have hR0t : R0.toList.take (i * 1) = (l.flatMap cellsU).take (i * 1) := by
    rw [hR0]
    simp only [Array.toList_append, List.append_assoc]
    rw [List.take_append_of_le_length (by rw [List.length_take, hflen]; omega), List.take_of_length_le (by rw [List.length_take]; omega)]
  obtain ⟨R1, hR1⟩ : ∃ R1, R1 = R0.toList.take (i * 1) ++ cellsU x ++ R0.toList.drop (i * 1 + (cellsU x).length) := ⟨_, rfl⟩
  obtain ⟨R2, hR2⟩ : ∃ R2, R2 = R1.take ((i + 1) * 1) ++ (l.flatMap cellsU).drop (i * 1) ++ R1.drop ((i + 1) * 1 + ((l.flatMap cellsU).drop (i * 1)).length) := ⟨_, rfl⟩
  have hR1l : R1.length = G * 1 := by rw [hR1]; simp only [List.length_append, List.length_take, List.length_drop, hR0l, hxl]; omega
  have hh0 : ∀ W : World, W.heap = (w.alloc (.cells R0 40)).heap → W.heap[w.heap.size]? = some (.cells R0 40 (0, 0)) := fun W hW => by rw [hW]; exact heap_alloc_new w _
  have hvW : ∀ W : World, W.heap = (w.alloc (.cells R0 40)).heap → W.heap[vb]? = some (.cells (cellsU x).toArray T (0, 0)) := fun W hW => by rw [hW, Below.heap_alloc w _ vb hvlt]; exact hvb
  have hcpA : ∀ (W : World), W.heap = (w.alloc (.cells R0 40)).heap → ∀ ty dl dc, 1 ≤ dl → (Builtin.copy_ #[41, 41] ty #[.slice (some ⟨w.heap.size, i * 1, none⟩) dl dc, .slice (some ⟨vb, 0, none⟩) 1 vc]).run Tryz.prog W = .ok (goInt (Nat.min 1 dl)) (W.setRow w.heap.size R1.toArray) := fun W hW ty dl dc h1 => by
    have := run_copy_rowS (P := Tryz.prog) W 41 41 ty 40 1 w.heap.size (i * 1) dl dc ⟨vb, 0, none⟩ 1 vc R0 40 (cellsU x) Tryz.underlying41 hs1 (hh0 W hW) (by rw [hxl]; simp only [Nat.min_def]; split <;> omega) (flatAtU x vb T W (hvW W hW)) (by rw [hxl, ← Array.length_toList, hR0l]; omega) (fun v hv => cellsU_one x v hv)
    rw [this, hR1]
  have hcpB : ∀ (W : World), W.heap = ((w.alloc (.cells R0 40)).setRow w.heap.size R1.toArray).heap → ∀ ty dl dc sl sc, dl = l.length - i → sl = l.length - i → (Builtin.copy_ #[41, 41] ty #[.slice (some ⟨w.heap.size, (i + 1) * 1, none⟩) dl dc, .slice (some ⟨g, i * 1, none⟩) sl sc]).run Tryz.prog W = .ok (goInt (Nat.min sl dl)) (W.setRow w.heap.size R2.toArray) := fun W hW ty dl dc sl sc h1 h2 => by
    subst h1; subst h2
    have hgW : W.heap[w.heap.size]? = some (.cells R1.toArray 40 (0, 0)) := by rw [hW]; exact setRow_heap _ _ R0 _ _ _ (heap_alloc_new w _)
    have hgg : W.heap[g]? = some (.cells cur 40 (0, 0)) := by rw [hW, setRow_other _ _ g _ (by omega), Below.heap_alloc w _ g hglt]; exact hg
    have hfd : ((l.flatMap cellsU).drop (i * 1)).length = (l.length - i) * 1 := by rw [List.length_drop, hflen]; omega
    have := run_copy_rowS (P := Tryz.prog) W 41 41 ty 40 1 w.heap.size ((i + 1) * 1) (l.length - i) dc ⟨g, i * 1, none⟩ (l.length - i) sc R1.toArray 40 ((l.flatMap cellsU).drop (i * 1)) Tryz.underlying41 hs1 hgW (by rw [hfd]; simp only [Nat.min_def]; split <;> omega) (rowAtU W g cur l hgg htk i) (by rw [hfd, List.size_toArray, hR1l]; omega) (fun v hv => flat_oneU l v (List.mem_of_mem_drop hv))
    rw [this, hR2]
  have HR : Hid (R2.length = G * 1 ∧ R2.take ((l.length + 1) * 1) = (l.take i ++ x :: l.drop i).flatMap cellsU) := by
    have e1 : (i + 1) * 1 = i * 1 + 1 := by omega
    rw [e1] at hR2
    refine ⟨?_, ?_⟩
    · rw [hR2, hR1, seg_ins2_len (i * 1) (l.length * 1) 1 R0.toList _ _ (by omega) hflen (by rw [hR0l]; omega) hxl, hR0l]
    · rw [show (l.length + 1) * 1 = l.length * 1 + 1 by omega, hR2, hR1, seg_ins2 (i * 1) (l.length * 1) 1 R0.toList _ _ (by omega) hflen hR0t (by rw [hR0l]; omega) hxl, flat_takeU]
  have HB := Lib.hid hB
  have HGN := Lib.hid hGn
  have HGM := Lib.hid hGm
  unfold maxLen at hGm
  have hin : ¬ ((i : Int) = (l.length : Int)) := by omega
  have hb4 : ¬ (l.length = i) := by omega
  have hb5 : i ≤ l.length := by omega
  have hb6 : ¬ (G = i) := by omega
  have hb7 : ¬ (G = i + 1) := by omega
  have hw1 : IntKind.i64.wrap ((i : Int) + 1) = (i : Int) + 1 := IntWalk.i64_in _ (by omega)
  have hw2 : IntKind.i64.wrap ((l.length : Int) + 1) = (l.length : Int) + 1 := IntWalk.i64_in _ (by omega)
  have hw3 : IntKind.i64.wrap ((l.length : Int) + 1 - (i : Int)) = (l.length : Int) + 1 - (i : Int) := IntWalk.i64_in _ (by omega)
  have hb1 : (0 : Int) ≤ (i : Int) + 1 := by omega
  have htn : ((i : Int) + 1).toNat = i + 1 := by omega
  have hb3 : (i : Int) ≤ (l.length : Int) + 1 := by omega
  have mixed : Tryz.prog.follows Departure.mixedOrders = true := by kernel_rfl
  clear hR0 hR1 hR2 hR0l hR0t hR1l hh0 hvW hflen htk hvb hg hs1 hi0 hz0 hz1 hz2 hxl hzz hzs hrow hold hG hglt hvlt hroom hnc
  simp only [Nat.mul_one] at hcpA hcpB
  go_enter Tryz.func64, Tryz.ntmps64
  go_wp2_with (first
    | (at_builtin; refine Lib.wpList_append_run _ rfl _ _ _ _ rfl _ _ rfl rfl _ _ (hrz _) ?_)
    | (refine Go.Proofs.wpList_copy_runI (o := ⟨some 45, _, _, _, _, _⟩) _ rfl _ _ 41 41 rfl _ _ rfl rfl (hcpA (w.alloc (.cells R0 40)).drew rfl _ _ _ (by omega)) ?_))
  go_region_law_o (refine Go.Proofs.step_copy_runI rfl _ _ 41 41 rfl (.slice (some ⟨w.heap.size, i + 1, none⟩) (l.length - i) (G - (i + 1))) (.slice (some ⟨g, i, none⟩) (l.length - i) (l.length - i)) (by simp [Act.eval, Act.put]) (by simp [Act.eval, Act.put]) (hcpB (((w.alloc (.cells R0 40)).drew.setRow w.heap.size R1.toArray).drew) rfl 3 _ _ _ _ rfl rfl) ?_)
  go_wp2
  go_ret
  refine ⟨_, rfl, ?_, ?_, fun k _ hlt => ?_, .inr ⟨_, rfl, Nat.le_refl _⟩⟩
  · have hgW : ((w.alloc (.cells R0 40)).drew.setRow w.heap.size R1.toArray).drew.heap[w.heap.size]? = some (.cells R1.toArray 40 (0, 0)) := setRow_heap _ _ R0 _ _ _ (heap_alloc_new w _)
    have hlen : (l.take i ++ x :: l.drop i).length = l.length + 1 := by simp only [List.length_append, List.length_take, List.length_cons, List.length_drop]; omega
    show World.ownsRow _ _ _ _ _ _ _
    rw [hlen]
    exact owns_setRow hgW HB.out HGN.out HGM.out HR.out.1 (by rw [flat_len _ _ cellsU_len _, hlen]) HR.out.2
  · exact below_setRow (below_setRow ((Below.refl _ _).alloc HB.out _).drew HB.out _).drew HB.out _
  · have hkg : k ≠ w.heap.size := by omega
    exact ((setRow_other _ w.heap.size k _ hkg).trans (setRow_other _ w.heap.size k _ hkg)).trans (Below.heap_alloc w _ k hlt)
end Go.Proofs.YtnhbdonffomibaaGreat
/- The contracts of slices.Insert and slices.Delete of one text, at a row of one's own. -/
namespace Go.Proofs.YtnhbdonffomibaaGreat
open Go.RowKit Go.Sort
theorem insertU_any (B vb vc i : Nat) (v : Value) (l : List (Nat)) (x : (Nat)) (T : TypeId) (w : World) (hi : i ≤ l.length) (hl : l.length ≤ 100000) (hv : RowU w B v l) (hB : B ≤ w.heap.size) (hvb : w.heap[vb]? = some (.cells (cellsU x).toArray T (0, 0))) (hne : v.ownBlock ≠ some vb) :
    Calls Tryz.prog 64 #[v, .int .i64 i, .slice (some ⟨vb, 0, none⟩) 1 vc] w (InsOutU B v (l.take i ++ x :: l.drop i) w) := by
  by_cases he : i = l.length
  · subst he
    rw [List.take_length, List.drop_length]
    exact insertU_end B vb vc v l x T w hv hB hl hvb
  · obtain ⟨_, h1⟩ := hv
    rcases h1 with ⟨rfl, h0⟩ | ⟨g, cap, cur, rfl, hg, hh, hn, hm, hs, ht⟩
    · omega
    · have hng : vb ≠ g := fun h => hne (by rw [h]; rfl)
      by_cases hr : l.length + 1 ≤ cap
      · exact insertU_shift B g cap i vb vc cur l x T w (by omega) hr hm hh hg hs ht hvb hng
      · exact insertU_grow B g cap i vb vc cur l x T w (by omega) hn hr hl hB hh ht hvb
theorem flat_eV (l : List Nat) : l.flatMap cellsU = l.map eV := by
  induction l with
  | nil => rfl
  | cons x t ih => rw [List.flatMap_cons, ih]; rfl
theorem rowU_iffV (w : World) (B : Nat) (v : Value) (l : List Nat) : RowU w B v l = RowV w B v l := by
  unfold RowU RowV RowP
  rw [flat_eV]
theorem oneV : OneCell eV := fun _ => rfl
/-- What Insert answers. -/
structure InsV (B : Nat) (u : Value) (l : List Nat) (w : World) (v : Value) (w' : World) : Prop where
  row : RowV w' B v l
  below : Below B w w'
  keep : ∀ k, u.ownBlock ≠ some k → k < w.heap.size → w'.heap[k]? = w.heap[k]?
  at' : v.ownBlock = u.ownBlock ∨ ∃ g, v.ownBlock = some g ∧ w.heap.size ≤ g
theorem uxIns_any (B vb vc i : Nat) (v : Value) (l : List Nat) (x : Nat) (T : TypeId) (w : World) (hi : i ≤ l.length) (hl : l.length ≤ 100000) (hv : RowV w B v l) (hB : B ≤ w.heap.size) (hvb : w.heap[vb]? = some (.cells #[.int .u32 x] T (0, 0))) (hne : v.ownBlock ≠ some vb) :
    Calls Tryz.prog 64 #[v, .int .i64 i, .slice (some ⟨vb, 0, none⟩) 1 vc] w fun e w' => ∃ v', e = .returned v' ∧ InsV B v (Tx.ins l i x) w v' w' :=
  (insertU_any B vb vc i v l x T w hi hl (by rw [rowU_iffV]; exact hv) hB hvb hne).mono fun e w' h => by
    obtain ⟨v', he, hr, hb, hk, hf⟩ := h
    rw [rowU_iffV] at hr
    exact ⟨v', he, hr, hb, hk, hf⟩
/-- What Delete of one answers. -/
theorem uxDel_any (B g cap i : Nat) (l : List Nat) (w : World) (hi : i < l.length) (hv : RowV w B (.slice (some ⟨g, 0, none⟩) l.length cap) l) :
    Calls Tryz.prog 77 #[.slice (some ⟨g, 0, none⟩) l.length cap, .int .i64 i, .int .i64 ((i : Int) + 1)] w fun e w' => ∃ v', e = .returned v' ∧ v'.ownBlock = some g ∧ InsV B (.slice (some ⟨g, 0, none⟩) l.length cap) (Tx.del l i) w v' w' := by
  obtain ⟨i0, hi0, hz0, hz1, hz2⟩ := info_parts infoV
  have hcap : l.length ≤ cap ∧ cap ≤ 9223372036854775807 ∧ B ≤ g ∧ g < w.heap.size := by
    rcases hv.open with ⟨h, _⟩ | ⟨g', cap', cur, h, hB, hg, h1, h2, _⟩
    · cases h
    · cases h; exact ⟨h1, h2, hB, (Array.getElem?_eq_some_iff.1 hg).1⟩
  have hF : (l.take i ++ l.drop (i + 1) ++ List.replicate (i + 1 - i) (0 : Nat)).length = l.length := by simp; omega
  have h := Tryz.slices_Delete_f77 eV oneV (0 : Nat) (fun w => Tryz.zeroValue40 w) i0 hi0 hz1 g 0 cap i (i + 1) l.toArray w (hv.holds rfl) (by simpa using hcap.1) hcap.2.1 (by omega) (by show i + 1 ≤ l.length; omega)
  refine h.mono ?_
  rintro e w' ⟨he, q, hw⟩
  obtain ⟨hr, hb⟩ := RowP.put (n := q) (os := #[]) hv (l.take i ++ l.drop (i + 1) ++ List.replicate (i + 1 - i) (0 : Nat)) (l.length - 1) hF (by omega)
  rw [grow_none] at hr hb
  have hd : (l.take i ++ l.drop (i + 1) ++ List.replicate (i + 1 - i) (0 : Nat)).take (l.length - 1) = Tx.del l i := by
    rw [List.take_append_of_le_length (by simp; omega), List.take_of_length_le (by simp; omega)]; rfl
  rw [hd] at hr
  refine ⟨_, he, rfl, ?_, ?_, ?_, .inl rfl⟩
  · rw [hw]
    have e1 : l.toArray.size - (i + 1 - i) = l.length - 1 := by simp
    rw [e1]; exact hr
  · rw [hw]; exact hb
  · intro k hk _
    rw [hw]
    have : g ≠ k := fun h => hk (by rw [h]; rfl)
    simp [putRow, mapBlock, Sort.ahead, Array.getElem?_modify, this]
end Go.Proofs.YtnhbdonffomibaaGreat
/- A set of texts: Add, Remove. -/
namespace Go.Proofs.YtnhbdonffomibaaGreat
open Go.RowKit Go.Sort
open Tx (Rise Ord above)
/-- What a set has with one more. -/
def addV (l : List Nat) (x : Nat) (l' : List Nat) : Prop := Rise vlt l' ∧ (∀ y, y ∈ l' ↔ y = x ∨ y ∈ l) ∧ l'.length ≤ l.length + 1
/-- What a set has with one less. -/
def remV (l : List Nat) (x : Nat) (l' : List Nat) : Prop := Rise vlt l' ∧ (∀ y, y ∈ l' ↔ y ≠ x ∧ y ∈ l) ∧ l'.length ≤ l.length
/-- The box is written with a row of its own that stands in another block. -/
theorem SetV.stored {w w2 : World} {p B : Nat} {v v' : Value} {l l' : List Nat} (h : SetV w p B v l) (hp : w2.heap[p]? = w.heap[p]?) (hr : RowV w2 B v' l') (hrise : Rise vlt l') (hne : v'.ownBlock ≠ some p) :
    SetV (w2.setCell ⟨p, 0, none⟩ v') p B v' l' := by
  have c2 := (cell_same hp 0).trans h.c0
  refine ⟨World.cell?_setCell_same' _ _ _ (by rw [c2]; rfl), by rw [World.frozen?_setCell]; exact (frozen_same hp 0).trans h.f0, hr.keep (fun g hg => Below.heap_setCell w2 _ v' g (fun e => hne (by rw [hg]; exact congrArg some e))), hrise, hne⟩
theorem uxAdd_any {w : World} {p B : Nat} {v : Value} {l : List Nat} (h : SetV w p B v l) (hl : l.length ≤ 90000) (hB : B ≤ w.heap.size) (x : Nat) :
    Calls Tryz.prog 37 #[.pointer (some ⟨p, 0, none⟩), .int .u32 x] w fun e w' => (∃ b, e = .returned (.bool b)) ∧ ∃ v' l', SetV w' p B v' l' ∧ addV l x l' ∧ SetK p B v w w' ∧ (v'.ownBlock = v.ownBlock ∨ ∃ g, v'.ownBlock = some g ∧ w.heap.size ≤ g) := by
  have HP := Lib.hid (uxPlace_any h (by omega) x)
  have hn := fun W => setV_not_nil W p
  have HS := Lib.hid h
  have HLT := Lib.hid (World.block_lt_of_cell? _ _ h.c0)
  have hlt := HLT.out
  obtain ⟨a, c, rfl⟩ := h.row.slice
  clear h
  go_enter Tryz.func37, Tryz.ntmps37
  go_upto_region 2 with (go_at_call 63; refine HP.out.mono ?_; rintro e w1 ⟨k, rfl, hat, q, rfl⟩; have HAT := Lib.hid hat; clear hat)
  have hk := HAT.out.le
  by_cases hx : l[k]? = some x
  · rw [decide_eq_true hx]
    have HX := Lib.hid hx
    clear hx
    go_wp2
    go_ret
    exact ⟨⟨_, rfl⟩, _, l, HS.out.drewN q, ⟨HS.out.rise, fun y => ⟨.inr, fun h => h.elim (fun e => by rw [e]; exact List.mem_of_getElem? HX.out) id⟩, by omega⟩, ⟨Nat.le_refl _, rfl, rfl, rfl, fun _ _ _ _ => rfl⟩, .inl rfl⟩
  · rw [decide_eq_false hx]
    have HX := Lib.hid hx
    clear hx
    have c0 : (w.drewN q).cell? ⟨p, 0, none⟩ = some (.slice a l.length c) := (HS.out.drewN q).c0
    have f0 : (w.drewN q).frozen? ⟨p, 0, none⟩ = false := (HS.out.drewN q).f0
    have HI := Lib.hid (fun T => uxIns_any B (w.drewN q).heap.size 1 k (.slice a l.length c) l x T ((w.drewN q).alloc (.cells #[.int .u32 x] T)) hk (by omega) ((HS.out.drewN q).row.below ((Below.refl _ _).alloc (Nat.le_refl _) _)) (by simp; omega) (heap_alloc_new _ _) (fun e => by have := ((HS.out.drewN q).row.lt e).1; omega))
    go_wp2_with (go_at_call 64; refine (HI.out _).mono ?_; rintro e w2 ⟨v2, rfl, hi2⟩; have HI2 := Lib.hid hi2; obtain ⟨a2, c2, rfl⟩ := hi2.row.slice; have hw2p : w2.heap[p]? = w.heap[p]? := (hi2.keep p HS.out.ne (by simp; omega)).trans (Below.heap_alloc (w.drewN q) _ p hlt); have c2p : w2.cell? ⟨p, 0, none⟩ = some (.slice a l.length c) := (cell_same hw2p 0).trans HS.out.c0; have f2p : w2.frozen? ⟨p, 0, none⟩ = false := (frozen_same hw2p 0).trans HS.out.f0; have HWP := Lib.hid hw2p; clear hi2 hw2p)
    go_ret
    have hne2 : (Value.slice a2 (Tx.ins l k x).length c2).ownBlock ≠ some p := fun e => by
      have hlen := ins_len (x := x) hk
      rcases HI2.out.row.open with ⟨h, h0⟩ | ⟨g, cap, cur, h, _⟩
      · rw [h0] at hlen; cases hlen
      · have hx0 : (Tx.ins l k x)[0]? = some ((Tx.ins l k x)[0]'(by omega)) := List.getElem?_eq_getElem (by omega)
        have h1 := ((HI2.out.row.cells h).2 0 _ hx0).1
        rw [h] at e
        injection e with e
        have e' : g = p := e
        rw [e', c2p] at h1
        cases h1
    refine ⟨⟨_, rfl⟩, _, Tx.ins l k x, HS.out.stored HWP.out HI2.out.row (HAT.out.ins_rise vord HS.out.rise HX.out) hne2, ⟨HAT.out.ins_rise vord HS.out.rise HX.out, fun y => Tx.ins_mem, by rw [ins_len hk]; omega⟩, ?_, HI2.out.at'.imp id (fun ⟨g, hg, hle⟩ => ⟨g, hg, Nat.le_trans (by simp) hle⟩)⟩
    exact SetK.stored (w := w) (B := B) (p := p) (v := .slice a l.length c) (Nat.le_trans (by simp) HI2.out.below.size) HI2.out.below.os HI2.out.below.tape HI2.out.below.output (fun k hv hk' => (HI2.out.keep k hv (by simp; omega)).trans (Below.heap_alloc (w.drewN q) _ k hk')) _
theorem uxRemove_any {w : World} {p B : Nat} {v : Value} {l : List Nat} (h : SetV w p B v l) (hl : l.length ≤ 90000) (x : Nat) :
    Calls Tryz.prog 61 #[.pointer (some ⟨p, 0, none⟩), .int .u32 x] w fun e w' => (∃ b, e = .returned (.bool b)) ∧ ∃ v' l', SetV w' p B v' l' ∧ remV l x l' ∧ SetK p B v w w' ∧ (v'.ownBlock = v.ownBlock ∨ ∃ g, v'.ownBlock = some g ∧ w.heap.size ≤ g) := by
  have HP := Lib.hid (uxPlace_any h (by omega) x)
  have HS := Lib.hid h
  obtain ⟨a, c, rfl⟩ := h.row.slice
  clear h
  go_enter Tryz.func61, Tryz.ntmps61
  go_upto_region 2 with (go_at_call 63; refine HP.out.mono ?_; rintro e w1 ⟨k, rfl, hat, q, rfl⟩; have HAT := Lib.hid hat; clear hat)
  have hk := HAT.out.le
  by_cases hx : l[k]? = some x
  · rw [decide_eq_true hx]
    have HX := Lib.hid hx
    have hkl := (List.getElem?_eq_some_iff.1 hx).1
    clear hx
    have c0 : (w.drewN q).cell? ⟨p, 0, none⟩ = some (.slice a l.length c) := (HS.out.drewN q).c0
    have f0 : (w.drewN q).frozen? ⟨p, 0, none⟩ = false := (HS.out.drewN q).f0
    obtain ⟨g, cap, hgc⟩ : ∃ g cap, (Value.slice a l.length c) = .slice (some ⟨g, 0, none⟩) l.length cap := by
      rcases HS.out.row.open with ⟨_, h⟩ | ⟨g, cap, _, h, _⟩
      · rw [h] at hkl; cases hkl
      · exact ⟨g, cap, h⟩
    cases hgc
    have HD := Lib.hid (uxDel_any B g c k l (w.drewN q) hkl (HS.out.drewN q).row)
    have HLT := Lib.hid (World.block_lt_of_cell? _ _ HS.out.c0)
    have hlt := HLT.out
    go_wp2_with (go_at_call 77; refine HD.out.mono ?_; rintro e w2 ⟨v2, rfl, hg2, hi2⟩; have HI2 := Lib.hid hi2; have HG2 := Lib.hid hg2; obtain ⟨a2, c2, rfl⟩ := hi2.row.slice; have hw2p : w2.heap[p]? = w.heap[p]? := hi2.keep p HS.out.ne hlt; have c2p : w2.cell? ⟨p, 0, none⟩ = some (.slice (some ⟨g, 0, none⟩) l.length c) := (cell_same hw2p 0).trans HS.out.c0; have f2p : w2.frozen? ⟨p, 0, none⟩ = false := (frozen_same hw2p 0).trans HS.out.f0; have HWP := Lib.hid hw2p; clear hi2 hw2p hg2)
    go_ret
    refine ⟨⟨_, rfl⟩, _, Tx.del l k, HS.out.stored HWP.out HI2.out.row (Tx.del_rise k HS.out.rise) (fun e => HS.out.ne (by rw [← e, HG2.out]; rfl)), ⟨Tx.del_rise k HS.out.rise, fun y => Tx.del_mem vord HS.out.rise HX.out, by rw [del_len hkl]; omega⟩, ?_, HI2.out.at'⟩
    exact SetK.stored (w := w) (B := B) (p := p) (v := .slice (some ⟨g, 0, none⟩) l.length c) HI2.out.below.size HI2.out.below.os HI2.out.below.tape HI2.out.below.output (fun k hv hk' => HI2.out.keep k hv hk') _
  · rw [decide_eq_false hx]
    have HX := Lib.hid hx
    clear hx
    go_wp2
    go_ret
    exact ⟨⟨_, rfl⟩, _, l, HS.out.drewN q, ⟨HS.out.rise, fun y => ⟨fun h => ⟨fun e => HX.out ((HAT.out.mem vord HS.out.rise).1 (e ▸ h)), h⟩, fun h => h.2⟩, by omega⟩, ⟨Nat.le_refl _, rfl, rfl, rfl, fun _ _ _ _ => rfl⟩, .inl rfl⟩
end Go.Proofs.YtnhbdonffomibaaGreat
/- The contract of slices.CompactFunc at texts, by 'same'. -/
namespace Go.Proofs.YtnhbdonffomibaaGreat
open Go.RowKit Go.Sort
theorem uxSame_any (x y : Nat) (w : World) : Calls Tryz.prog 59 #[.int .u32 x, .int .u32 y] w fun e w' => e = .returned (.bool (decide (x = y))) ∧ w = w' := psame_any x y w
theorem sizeV : ∀ w, (Go.sizeOf (Tryz.prog.elem 41)).run Tryz.prog w = .ok 1 w := fun w => by kernel_rfl
theorem zero_lenV (n : Nat) : (Builtin.zeroCells #[.int .u32 0] n).toList.length = n := by simp [Builtin.zeroCells]
theorem zero_oneV (n : Nat) : ∀ v ∈ (Builtin.zeroCells #[.int .u32 0] n).toList, v.oneCell' = true := by
  intro v hv
  simp only [Builtin.zeroCells, Array.toList_map, Array.toList_range] at hv
  obtain ⟨i, hi, rfl⟩ := List.mem_map.1 hv
  simp [Nat.mod_one, Value.oneCell']
/-- 'clear(s)', s of texts. -/
theorem run_clearV (w : World) (ty : TypeId) (b o n c : Nat) (hn : 0 < n) (hc : ∀ j, j < n → (w.cell? ⟨b, o + j, none⟩).isSome = true) (hf : ∀ j, j < n → w.frozen? ⟨b, o + j, none⟩ = false) :
    (Builtin.clear_ #[41] ty #[.slice (some ⟨b, o, none⟩) n c]).run Tryz.prog w = .ok (.tuple #[]) (w.setCells b o (Builtin.zeroCells #[.int .u32 0] n).toList) := by
  have hst := run_storeCells_cells (P := Tryz.prog) b o (Builtin.zeroCells #[.int .u32 0] n).toList 0 w (by rw [zero_lenV]; simpa using hc) (by rw [zero_lenV]; simpa using hf) (zero_oneV n)
  simp only [Nat.add_zero] at hst
  have hv : ∀ w, (zeroValue 40).run Tryz.prog w = .ok (.int .u32 0) w := fun w => by kernel_rfl
  have hz : (Value.int .u32 0).cells = #[.int .u32 0] := rfl
  obtain ⟨n', rfl⟩ : ∃ m, n = m + 1 := ⟨n - 1, by omega⟩
  simp [Builtin.clear_, run_underlying Tryz.underlying41, hv, hz, hst]
theorem cutV_at (g n c q : Nat) (hq : q < c) (hqn : q ≤ n) : ∀ W, (Instr.sliceAt 41 (.slice (some ⟨g, 0, none⟩) n c) (some (.int .i64 (q : Int))) none none).run Tryz.prog W = .ok (.slice (some ⟨g, q, none⟩) (n - q) (c - q)) W := by
  intro W
  have hT : Tryz.prog.underlying 41 = some (.slice (Tryz.prog.elem 41)) := by kernel_rfl
  rw [run_sliceAt_slice (h := hT), run_slice_l (ht := hT) (h0 := by omega) (h1 := by omega), sizeV W]
  simp only [Result.andThen, sliced, Int.toNat_natCast]
  rw [if_neg (by omega)]
  simp only [Option.map_some, add_plain', Nat.zero_add, Nat.mul_one]
theorem cutV_head (g n c q : Nat) (hq : q ≤ n) (hc : n ≤ c) (h0 : 0 < c) : ∀ W, (Instr.sliceAt 41 (.slice (some ⟨g, 0, none⟩) n c) none (some (.int .i64 (q : Int))) none).run Tryz.prog W = .ok (.slice (some ⟨g, 0, none⟩) q c) W := by
  intro W
  have hT : Tryz.prog.underlying 41 = some (.slice (Tryz.prog.elem 41)) := by kernel_rfl
  rw [run_sliceAt_slice (h := hT), run_slice_h (ht := hT) (h0 := by omega) (h2 := by omega), sizeV W]
  simp only [Result.andThen, sliced, Int.toNat_natCast]
  rw [if_neg (by omega)]
  simp only [Option.map_some, add_plain', Nat.zero_add, Nat.zero_mul, Nat.sub_zero]
set_option maxHeartbeats 8000000 in
theorem uxCptF_any (v : Value) (m : List Nat) (hm : m.length ≤ 100000) (B : Nat) (w : World) (hB : B ≤ w.heap.size) (hr : RowV w B v m) :
    Calls Tryz.prog 58 #[v, .func (.func 59) #[] #[]] w fun e w' => ∃ v', e = .returned v' ∧ RowV w' B v' (Tx.cmpn m m.length) ∧ Below B w w' := by
  by_cases hs : m.length < 2
  · have hq : Tx.cmpn m m.length = m := by
      match m, hs with
      | [], _ => rfl
      | [x], _ => rfl
      | x :: y :: t, h => simp at h; omega
    rw [hq]
    have HSL := Lib.hid hr
    obtain ⟨a, c, rfl⟩ := hr.slice
    have hs' : (m.length : Int) < 2 := by omega
    clear hr
    go_enter Tryz.func58, Tryz.ntmps58
    go_wp2
    go_ret
    exact ⟨_, rfl, HSL.out, Below.refl _ _⟩
  · rcases hr.open with ⟨_, hz⟩ | ⟨g, cap, cur, rfl, hBg, hb, hc1, hc2, hc3, hc4⟩
    · rw [hz] at hs; simp at hs
    · have HR0 := Lib.hid hr
      have HBG := Lib.hid hBg
      have hs' : ¬ (m.length : Int) < 2 := by omega
      clear hr hb hc2 hc3 hc4 hBg
      go_enter Tryz.func58, Tryz.ntmps58
      go_wp2
      go_loopg [5] (m.length - 1) (fun n i wr => ∃ k : Nat, k + 1 ≤ m.length ∧ n = m.length - 1 - k ∧ i = .int .i64 ((k : Int) + 1) ∧ Hid (Tx.cmpn m (k + 1) = m.take (k + 1)) ∧ Hid (RowV wr B (.slice (some ⟨g, 0, none⟩) m.length cap) m) ∧ Hid (Below B w wr))
      case atStart => exact ⟨0, by omega, by omega, rfl, rfl, HR0.out, Below.refl _ _⟩
      case round =>
        obtain ⟨k, hk, rfl, rfl, HK, HR, HB⟩ := hrel
        by_cases hlt : k + 1 < m.length
        · obtain ⟨x, hx⟩ := some_atP (show k < m.length by omega)
          obtain ⟨y, hy⟩ := some_atP hlt
          have d0 := ((HR.out.cells rfl).2 k x hx).1
          have d2 := ((HR.out.cells rfl).2 (k + 1) y hy).1
          have hi : (k : Int) + 1 < (m.length : Int) := by omega
          have hi0 : (k : Int) < (m.length : Int) := by omega
          have hk0 : (0 : Int) ≤ (k : Int) := by omega
          have hk1 : (0 : Int) ≤ (k : Int) + 1 := by omega
          have hw1 : IntKind.i64.wrap ((k : Int) + 1 - 1) = (k : Int) := by rw [show (k : Int) + 1 - 1 = k by omega]; exact IntWalk.i64_in _ (by omega)
          have hw0 : IntKind.i64.wrap (k : Int) = (k : Int) := IntWalk.i64_in _ (by omega)
          have ht1 : ((k : Int) + 1).toNat = k + 1 := by omega
          have HS := Lib.hid (fun W => uxSame_any y x W)
          have HRd : Hid (RowV wr.drew B (.slice (some ⟨g, 0, none⟩) m.length cap) m) := HR.out.below (below_drewV (Below.refl _ _) 1)
          have HBd : Hid (Below B w wr.drew) := below_drewV HB.out 1
          by_cases hc : y = x
          · subst hc
            have HC1 := Lib.hid ((Tx.cmpn_same hy hx).trans HK.out)
            rw [decide_eq_true rfl] at HS
            clear hx hy
            obtain ⟨L2, hL2⟩ : ∃ L2, L2 = m.length - (k + 1) := ⟨_, rfl⟩
            have hkc : k + 1 < cap := Nat.lt_of_lt_of_le hlt hc1
            have hcut := cutV_at g m.length cap (k + 1) hkc (by omega)
            rw [← hL2, show ((k + 1 : Nat) : Int) = (k : Int) + 1 by omega] at hcut
            go_upto_region 6 with fail
            go_region_with (go_at_call 59; refine (HS.out _).mono ?_; rintro e w4 ⟨rfl, rfl⟩)
            all_goals
              go_wp2
              clear hcut d0 d2
              go_loopg [5, 7] (L2 - 1) (fun n cv iv wr2 => ∃ (i : Nat) (A : List Nat), i + 1 ≤ L2 ∧ n = L2 - 1 - i ∧ cv = .int .i64 (A.length : Nat) ∧ iv = .int .i64 ((i : Int) + 1) ∧ Hid (A = Tx.cmpn m (k + 1 + (i + 1))) ∧ Hid (A.length + 1 ≤ k + 1 + (i + 1)) ∧ Hid (RowV wr2 B (.slice (some ⟨g, 0, none⟩) m.length cap) (A ++ m.drop A.length)) ∧ Hid (Below B w wr2))
              case atStart =>
                have htl : (m.take (k + 1)).length = k + 1 := by rw [List.length_take]; omega
                refine ⟨0, m.take (k + 1), by omega, by omega, by rw [htl]; rfl, rfl, HC1.out.symm, by show _ ≤ _; rw [htl]; omega, ?_, HBd⟩
                show RowP _ _ _ _ _ _
                rw [htl, List.take_append_drop]
                exact HRd.out
              case round =>
                obtain ⟨i, A, hi2, rfl, rfl, rfl, HA, HAL, HR2, HB2⟩ := hrel
                have HRL : Hid ((A ++ m.drop A.length).length = m.length) := by have := HAL.out; show _ = _; rw [List.length_append, List.length_drop]; omega
                by_cases hlt2 : i + 1 < L2
                · obtain ⟨o, ho⟩ := some_atP (show k + 1 + i < m.length by omega)
                  obtain ⟨p, hp⟩ := some_atP (show k + 1 + (i + 1) < m.length by omega)
                  obtain ⟨z, hz⟩ := some_atP (show A.length < m.length by have := HAL.out; omega)
                  have d0 := ((HR2.out.cells rfl).2 _ _ ((rest_atP (by have := HAL.out; omega)).trans ho)).1
                  have d2 := ((HR2.out.cells rfl).2 _ _ ((rest_atP (by have := HAL.out; omega)).trans hp)).1
                  have d4 := ((HR2.out.cells rfl).2 _ _ ((rest_atP (Nat.le_refl _)).trans hz)).1
                  have f4 := ((HR2.out.cells rfl).2 _ _ ((rest_atP (Nat.le_refl _)).trans hz)).2
                  have hj : (i : Int) + 1 < (L2 : Int) := by omega
                  have hj0 : (i : Int) < (L2 : Int) := by omega
                  have hj1 : (0 : Int) ≤ (i : Int) := by omega
                  have hj2 : (0 : Int) ≤ (i : Int) + 1 := by omega
                  have hv1 : IntKind.i64.wrap ((i : Int) + 1 - 1) = (i : Int) := by rw [show (i : Int) + 1 - 1 = i by omega]; exact IntWalk.i64_in _ (by omega)
                  have hv0 : IntKind.i64.wrap (i : Int) = (i : Int) := IntWalk.i64_in _ (by omega)
                  have ht2 : ((i : Int) + 1).toNat = i + 1 := by omega
                  have hA0 : (0 : Int) ≤ (A.length : Int) := by omega
                  have hA1 : (A.length : Int) < (m.length : Int) := by have := HAL.out; omega
                  have HS2 := Lib.hid (fun W => uxSame_any p o W)
                  by_cases hc2 : p = o
                  · subst hc2
                    have HN := Lib.hid (HA.out.trans (Tx.cmpn_same hp ho).symm)
                    rw [decide_eq_true rfl] at HS2
                    have HRe : Hid (RowV wr.drew B (.slice (some ⟨g, 0, none⟩) m.length cap) (A ++ m.drop A.length)) := HR2.out.below (below_drewV (Below.refl _ _) 1)
                    have HBe : Hid (Below B w wr.drew) := below_drewV HB2.out 1
                    clear ho hp hz d4 f4
                    go_upto_region 11 with fail
                    go_region_with (go_at_call 59; refine (HS2.out _).mono ?_; rintro e w4 ⟨rfl, rfl⟩)
                    all_goals
                      go_wp2
                      go_roundg (L2 - 1 - (i + 1))
                      case measure => omega
                      case rel => exact ⟨i + 1, A, by omega, by omega, rfl, by go_num, HN, by have := HAL.out; show _ ≤ _; omega, HRe, HBe⟩
                  · have HN : Hid (A ++ [p] = Tx.cmpn m (k + 1 + (i + 1) + 1)) := by show _ = _; rw [HA.out]; exact (Tx.cmpn_next hp ho hc2).symm
                    rw [decide_eq_false hc2] at HS2
                    have HRe : Hid (RowV (wr.drew.setCell ⟨g, A.length, none⟩ (.int .u32 p)) B (.slice (some ⟨g, 0, none⟩) m.length cap) (A ++ [p] ++ m.drop (A ++ [p]).length)) := by
                      have h : RowV wr.drew B (.slice (some ⟨g, 0, none⟩) m.length cap) (A ++ m.drop A.length) := HR2.out.below (below_drewV (Below.refl _ _) 1)
                      rw [← HRL.out] at h
                      have h2 := RowP.set h A.length p
                      rw [List.length_set, HRL.out, set_restP (by have := HAL.out; omega)] at h2
                      exact h2
                    have HBe : Hid (Below B w (wr.drew.setCell ⟨g, A.length, none⟩ (.int .u32 p))) := (below_drewV HB2.out 1).setCell (p := ⟨g, A.length, none⟩) HBG.out _
                    clear ho hp hz hc2
                    go_upto_region 11 with fail
                    go_region_with (go_at_call 59; refine (HS2.out _).mono ?_; rintro e w4 ⟨rfl, rfl⟩)
                    all_goals
                      go_wp2
                      go_roundg (L2 - 1 - (i + 1))
                      case measure => omega
                      case rel => exact ⟨i + 1, A ++ [p], by omega, by omega, by rw [List.length_append]; go_num, by go_num, HN, by have := HAL.out; show _ ≤ _; rw [List.length_append, List.length_singleton]; omega, HRe, HBe⟩
                · have hj : k + 1 + (i + 1) = m.length := by omega
                  have hAm : A.length < m.length := by have := HAL.out; omega
                  have hAc : A.length < cap := Nat.lt_of_lt_of_le hAm hc1
                  have HEND : Hid (A = Tx.cmpn m m.length) := by have h := HA.out; rw [hj] at h; exact h
                  obtain ⟨S, hS⟩ : ∃ S, S = m.drop A.length := ⟨_, rfl⟩
                  have hSl : S.length = m.length - A.length := by rw [hS, List.length_drop]
                  have hR4 := HR2.out
                  have hRl := HRL.out
                  rw [← hS] at hR4 hRl
                  obtain ⟨hcl1, hcl2, _, _⟩ := hR4.cleared hRl (Builtin.zeroCells #[.int .u32 0] (m.length - A.length)).toList (by rw [zero_lenV, hSl])
                  have HCL := Lib.hid hcl1
                  have HCB := Lib.hid (HB2.out.trans hcl2)
                  have hcl := fun (ty : TypeId) => run_clearV wr ty g A.length (m.length - A.length) (cap - A.length) (by omega) (fun j hj => by
                    obtain ⟨y, hy⟩ := some_atP (l := A ++ S) (k := A.length + j) (by rw [hRl]; omega)
                    rw [((hR4.cells rfl).2 _ y hy).1]; rfl) (fun j hj => by
                    obtain ⟨y, hy⟩ := some_atP (l := A ++ S) (k := A.length + j) (by rw [hRl]; omega)
                    exact ((hR4.cells rfl).2 _ y hy).2)
                  have hct := cutV_at g m.length cap A.length hAc (by omega)
                  have hch := cutV_head g m.length cap A.length (by omega) hc1 (by omega)
                  have hj' : ¬ (i : Int) + 1 < (L2 : Int) := by omega
                  generalize hWZ : wr.setCells g A.length (Builtin.zeroCells #[.int .u32 0] (m.length - A.length)).toList = WZ at HCL HCB hcl
                  clear hWZ hR4 hS hSl HRL hcl1 hcl2 hRl
                  go_wp2
                  go_ret
                  exact ⟨_, rfl, by rw [← HEND.out]; exact HCL.out, HCB.out⟩
          · have HN : Hid (Tx.cmpn m (k + 1 + 1) = m.take (k + 1 + 1)) := by show _ = _; rw [Tx.cmpn_next hy hx hc, HK.out, Tx.take_snoc hy]
            rw [decide_eq_false hc] at HS
            clear hx hy hc
            go_upto_region 6 with fail
            go_region_with (go_at_call 59; refine (HS.out _).mono ?_; rintro e w4 ⟨rfl, rfl⟩)
            all_goals
              go_wp2
              go_roundg (m.length - 1 - (k + 1))
              case measure => omega
              case rel => exact ⟨k + 1, by omega, by omega, by go_num, HN, HRd, HBd⟩
        · have hkk : k + 1 = m.length := by omega
          have HQ : Hid (Tx.cmpn m m.length = m) := by
            have h := HK.out
            rw [hkk, List.take_length] at h
            exact h
          clear hkk
          go_wp2
          go_ret
          exact ⟨_, rfl, by rw [HQ.out]; exact HR.out, HB.out⟩
end Go.Proofs.YtnhbdonffomibaaGreat
