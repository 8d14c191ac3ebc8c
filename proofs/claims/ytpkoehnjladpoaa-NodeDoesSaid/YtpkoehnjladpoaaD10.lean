/- Texts of one seat, merged. -/
import Derived.Test.YtpkoehnjladpoaaD09
import Derived.Lib.SlicesDelete
import Derived.Deep.RegionLaw
import Derived.Test.YtpkoehnjladpoaaD04
import Derived.Test.YtpkoehnjladpoaaD08
import Derived.Deep.DeepCutAuto
import Derived.Test.YtpkoehnjladpoaaD05
import Derived.Test.YtpkoehnjladpoaaD06
set_option maxRecDepth 100000
set_option maxHeartbeats 4000000
set_option linter.unusedVariables false
/- The contract of slices.Insert of one cell, at a row of one's own: at its end, and where there is no room. -/
namespace Go.Proofs.Ytpkoehnjladpoaa
open Go.RowKit
open Sl (Cl Kd)
theorem insertC_end (B vb vc : Nat) (v : Value) (l : List Cl) (x : Cl) (T : TypeId) (w : World) (hv : RowC w B v l) (hB : B ≤ w.heap.size) (hl : l.length ≤ 100000) (hvb : w.heap[vb]? = some (.cells (cellsC x).toArray T (0, 0))) :
    Calls Try.prog 108 #[v, .int .i64 l.length, .slice (some ⟨vb, 0, none⟩) 1 vc] w (InsOutC B (l ++ [x]) w) := by
  obtain ⟨i0, hi0, hz0, hz1, hz2⟩ := info_parts info42
  have HOWN := Lib.hid hv
  have HLO := Lib.hid (fun k hk => (World.ownsRow.lt hv k hk).1)
  have HF := Lib.hid (flatAtC x vb T w hvb)
  have HXL := Lib.hid (show (cellsC x).length = 1 * 4 from cellsC_len x)
  have HX1 := Lib.hid (fun u hu => cellsC_one x u hu)
  have HFIN : Hid (∀ v' w1, w1.ownsRow B 42 4 v' (l.length + 1) (l.flatMap cellsC ++ cellsC x) → RowC w1 B v' (l ++ [x])) := fun v' w1 h => by
    show World.ownsRow _ _ _ _ _ _ _
    rw [List.length_append, List.flatMap_append]
    simpa using h
  obtain ⟨_, h1⟩ := hv
  rcases h1 with ⟨rfl, h0⟩ | ⟨g, cap, cur, rfl, hg, _, hn, hm, _, _⟩
  · obtain rfl : l = [] := List.length_eq_zero_iff.1 h0
    clear hvb
    go_enter Try.func108, Try.ntmps108
    go_wp2_with (at_builtin; refine wpList_append_own _ rfl _ _ 40 rfl B 42 i0 _ 4 40 Try.underlying40 hi0 hz0 hz1 hz2 rfl (by decide) _ 0 _ rfl HOWN.out ⟨vb, 0, none⟩ 1 vc (cellsC x) rfl HXL.out HF.out HX1.out (by unfold maxLen; omega) (by omega) hB ?_)
    intro v' w1 hown hgrow _
    go_wp2
    go_ret
    exact ⟨_, rfl, HFIN.out _ _ hown, (Below.refl _ _).grown hgrow hB (fun k hk => by simp [Value.ownBlock] at hk)⟩
  · unfold maxLen at hm
    clear hvb
    by_cases hcn : cap = l.length
    all_goals
      try subst hcn
      go_enter Try.func108, Try.ntmps108
      go_wp2_with (at_builtin; refine wpList_append_own _ rfl _ _ 40 rfl B 42 i0 _ 4 40 Try.underlying40 hi0 hz0 hz1 hz2 rfl (by decide) _ l.length _ rfl HOWN.out ⟨vb, 0, none⟩ 1 vc (cellsC x) rfl HXL.out HF.out HX1.out (by unfold maxLen; omega) (by omega) hB ?_)
      intro v' w1 hown hgrow _
      go_wp2
      go_ret
      exact ⟨_, rfl, HFIN.out _ _ hown, (Below.refl _ _).grown hgrow hB HLO.out⟩
theorem zeros_lenC (z : Array Value) (n : Nat) : (Builtin.zeroCells z n).size = n * z.size := by simp [Builtin.zeroCells]
set_option maxHeartbeats 8000000 in
theorem insertC_grow (B g cap i vb vc : Nat) (cur : Array Value) (l : List Cl) (x : Cl) (T : TypeId) (w : World) (hi : i < l.length) (hnc : l.length ≤ cap) (hroom : ¬ l.length + 1 ≤ cap) (hl : l.length ≤ 100000) (hB : B ≤ w.heap.size) (hg : w.heap[g]? = some (.cells cur 42 (0, 0))) (htk : cur.toList.take (l.length * 4) = l.flatMap cellsC) (hvb : w.heap[vb]? = some (.cells (cellsC x).toArray T (0, 0))) :
    Calls Try.prog 108 #[.slice (some ⟨g, 0, none⟩) l.length cap, .int .i64 i, .slice (some ⟨vb, 0, none⟩) 1 vc] w (InsOutC B (l.take i ++ x :: l.drop i) w) := by
  obtain ⟨i0, hi0, hz0, hz1, hz2⟩ := info_parts info42
  obtain rfl : cap = l.length := by omega
  obtain ⟨z, hzz, hzs⟩ : ∃ z, i0.zero = some z ∧ z.cells.size = 4 := ⟨_, hz0, rfl⟩
  have hs1 : (Try.prog.info? 42).map (·.size) = some 4 := by rw [hi0]; simp [hz1]
  have hflen : (l.flatMap cellsC).length = l.length * 4 := flat_len _ _ cellsC_len _
  have hxl := cellsC_len x
  have hglt : g < w.heap.size := (Array.getElem?_eq_some_iff.1 hg).1
  have hvlt : vb < w.heap.size := (Array.getElem?_eq_some_iff.1 hvb).1
  have hrow : ∀ k, ∀ j u, ((l.flatMap cellsC).drop (k * 4))[j]? = some u → w.cell? ((⟨g, k * 4, none⟩ : Addr).add j) = some u := rowAtC w g cur l hg htk
  have hold : (Builtin.firstCells i0.size i (.slice (some ⟨g, 0, none⟩) i l.length)).run Try.prog w.drew = .ok ((l.flatMap cellsC).take (i * 4)).toArray w.drew := by
    rw [hz1]
    exact run_firstCells_some w.drew 4 i ⟨g, 0, none⟩ i l.length ((l.flatMap cellsC).take (i * 4)) (by rw [List.length_take, hflen]; omega) (fun j u hj => by
      have hj2 := (List.getElem?_eq_some_iff.1 hj).1
      rw [List.length_take] at hj2
      rw [List.getElem?_take_of_lt (by omega)] at hj
      exact hrow 0 j u (by rw [Nat.zero_mul, List.drop_zero]; exact hj))
  obtain ⟨G, hG⟩ : ∃ G, G = grownCap w (l.length + 1) l.length 42 := ⟨_, rfl⟩
  have hrz : ∀ ty, (Builtin.append_ #[40, 3] ty #[.slice (some ⟨g, 0, none⟩) i l.length, .int .i64 ((l.length : Int) + 1 - (i : Int))]).run Try.prog w =
      .ok (.slice (some ⟨w.heap.size, 0, none⟩) (l.length + 1) G) (w.drew.alloc (.cells (((l.flatMap cellsC).take (i * 4)).toArray ++ Builtin.zeroCells z.cells (l.length + 1 - i) ++ Builtin.zeroCells z.cells (G - (l.length + 1))) 42)) := fun ty => by
    have hik : i + (l.length + 1 - i) = l.length + 1 := by omega
    have h := Lib.run_append_grow_zeros w 40 3 ty 42 i0 _ .i64 .i64 Try.underlying40 Try.underlying3 hi0 hzz (some ⟨g, 0, none⟩) i l.length _ hold (l.length + 1 - i) (by omega) (by rw [hz1]; decide) (by omega) (by omega) (by rw [hz2]; omega) (by rw [hz2, hik]; exact growslice_fits (by omega) (by omega))
    rw [hik, ← hG] at h
    rw [show (l.length : Int) + 1 - (i : Int) = ((l.length + 1 - i : Nat) : Int) by omega]
    exact h
  obtain ⟨R0, hR0⟩ : ∃ R0 : Array Value, R0 = ((l.flatMap cellsC).take (i * 4)).toArray ++ Builtin.zeroCells z.cells (l.length + 1 - i) ++ Builtin.zeroCells z.cells (G - (l.length + 1)) := ⟨_, rfl⟩
  rw [← hR0] at hrz
  have hGn : l.length + 1 ≤ G := by rw [hG]; exact grownCap_ge w _ _ _
  have hGm : G ≤ maxLen := by rw [hG]; exact grownCap_le_maxLen w (l.length + 1) l.length 42 (by unfold maxLen; omega)
  have hR0l : R0.toList.length = G * 4 := by
    rw [hR0]
    simp only [Array.toList_append, List.length_append, Array.length_toList, zeros_lenC, hzs, List.length_take, hflen]
    omega
  have hR0t : R0.toList.take (i * 4) = (l.flatMap cellsC).take (i * 4) := by
    rw [hR0]
    simp only [Array.toList_append, List.append_assoc]
    rw [List.take_append_of_le_length (by rw [List.length_take, hflen]; omega), List.take_of_length_le (by rw [List.length_take]; omega)]
  obtain ⟨R1, hR1⟩ : ∃ R1, R1 = R0.toList.take (i * 4) ++ cellsC x ++ R0.toList.drop (i * 4 + (cellsC x).length) := ⟨_, rfl⟩
  obtain ⟨R2, hR2⟩ : ∃ R2, R2 = R1.take ((i + 1) * 4) ++ (l.flatMap cellsC).drop (i * 4) ++ R1.drop ((i + 1) * 4 + ((l.flatMap cellsC).drop (i * 4)).length) := ⟨_, rfl⟩
  have hR1l : R1.length = G * 4 := by rw [hR1]; simp only [List.length_append, List.length_take, List.length_drop, hR0l, hxl]; omega
  have hh0 : ∀ W : World, W.heap = (w.alloc (.cells R0 42)).heap → W.heap[w.heap.size]? = some (.cells R0 42 (0, 0)) := fun W hW => by rw [hW]; exact heap_alloc_new w _
  have hvW : ∀ W : World, W.heap = (w.alloc (.cells R0 42)).heap → W.heap[vb]? = some (.cells (cellsC x).toArray T (0, 0)) := fun W hW => by rw [hW, Below.heap_alloc w _ vb hvlt]; exact hvb
  have hcpA : ∀ (W : World), W.heap = (w.alloc (.cells R0 42)).heap → ∀ ty dl dc, 1 ≤ dl → (Builtin.copy_ #[40, 40] ty #[.slice (some ⟨w.heap.size, i * 4, none⟩) dl dc, .slice (some ⟨vb, 0, none⟩) 1 vc]).run Try.prog W = .ok (goInt (Nat.min 1 dl)) (W.setRow w.heap.size R1.toArray) := fun W hW ty dl dc h1 => by
    have := run_copy_rowS (P := Try.prog) W 40 40 ty 42 4 w.heap.size (i * 4) dl dc ⟨vb, 0, none⟩ 1 vc R0 42 (cellsC x) Try.underlying40 hs1 (hh0 W hW) (by rw [hxl]; simp only [Nat.min_def]; split <;> omega) (flatAtC x vb T W (hvW W hW)) (by rw [hxl, ← Array.length_toList, hR0l]; omega) (fun v hv => cellsC_one x v hv)
    rw [this, hR1]
  have hcpB : ∀ (W : World), W.heap = ((w.alloc (.cells R0 42)).setRow w.heap.size R1.toArray).heap → ∀ ty dl dc sl sc, dl = l.length - i → sl = l.length - i → (Builtin.copy_ #[40, 40] ty #[.slice (some ⟨w.heap.size, (i + 1) * 4, none⟩) dl dc, .slice (some ⟨g, i * 4, none⟩) sl sc]).run Try.prog W = .ok (goInt (Nat.min sl dl)) (W.setRow w.heap.size R2.toArray) := fun W hW ty dl dc sl sc h1 h2 => by
    subst h1; subst h2
    have hgW : W.heap[w.heap.size]? = some (.cells R1.toArray 42 (0, 0)) := by rw [hW]; exact setRow_heap _ _ R0 _ _ _ (heap_alloc_new w _)
    have hgg : W.heap[g]? = some (.cells cur 42 (0, 0)) := by rw [hW, setRow_other _ _ g _ (by omega), Below.heap_alloc w _ g hglt]; exact hg
    have hfd : ((l.flatMap cellsC).drop (i * 4)).length = (l.length - i) * 4 := by rw [List.length_drop, hflen]; omega
    have := run_copy_rowS (P := Try.prog) W 40 40 ty 42 4 w.heap.size ((i + 1) * 4) (l.length - i) dc ⟨g, i * 4, none⟩ (l.length - i) sc R1.toArray 42 ((l.flatMap cellsC).drop (i * 4)) Try.underlying40 hs1 hgW (by rw [hfd]; simp only [Nat.min_def]; split <;> omega) (rowAtC W g cur l hgg htk i) (by rw [hfd, List.size_toArray, hR1l]; omega) (fun v hv => flat_oneC l v (List.mem_of_mem_drop hv))
    rw [this, hR2]
  have HR : Hid (R2.length = G * 4 ∧ R2.take ((l.length + 1) * 4) = (l.take i ++ x :: l.drop i).flatMap cellsC) := by
    have e1 : (i + 1) * 4 = i * 4 + 4 := by omega
    rw [e1] at hR2
    refine ⟨?_, ?_⟩
    · rw [hR2, hR1, seg_ins2_len (i * 4) (l.length * 4) 4 R0.toList _ _ (by omega) hflen (by rw [hR0l]; omega) hxl, hR0l]
    · rw [show (l.length + 1) * 4 = l.length * 4 + 4 by omega, hR2, hR1, seg_ins2 (i * 4) (l.length * 4) 4 R0.toList _ _ (by omega) hflen hR0t (by rw [hR0l]; omega) hxl, flat_takeC]
  have HB := Lib.hid hB
  have HGN := Lib.hid hGn
  have HGM := Lib.hid hGm
  unfold maxLen at hGm
  have hin : ¬ ((i : Int) = (l.length : Int)) := by omega
  have hb4 : ¬ (l.length = i) := by omega
  have hb5 : i ≤ l.length := by omega
  have hb6 : ¬ (G = i) := by omega
  have hb7 : ¬ (G = i + 1) := by omega
  have hw1 : IntKind.i64.wrap ((i : Int) + 1) = (i : Int) + 1 := IntWalk.i64_in _ (by omega)
  have hw2 : IntKind.i64.wrap ((l.length : Int) + 1) = (l.length : Int) + 1 := IntWalk.i64_in _ (by omega)
  have hw3 : IntKind.i64.wrap ((l.length : Int) + 1 - (i : Int)) = (l.length : Int) + 1 - (i : Int) := IntWalk.i64_in _ (by omega)
  have hb1 : (0 : Int) ≤ (i : Int) + 1 := by omega
  have htn : ((i : Int) + 1).toNat = i + 1 := by omega
  have hb3 : (i : Int) ≤ (l.length : Int) + 1 := by omega
  have mixed : Try.prog.follows Departure.mixedOrders = true := by kernel_rfl
  clear hR0 hR1 hR2 hR0l hR0t hR1l hh0 hvW hflen htk hvb hg hs1 hi0 hz0 hz1 hz2 hxl hzz hzs hrow hold hG hglt hvlt hroom hnc
  go_enter Try.func108, Try.ntmps108
  go_wp2_with (first
    | (at_builtin; refine Lib.wpList_append_run _ rfl _ _ _ _ rfl _ _ rfl rfl _ _ (hrz _) ?_)
    | (refine Go.Proofs.wpList_copy_runI (o := ⟨some 45, _, _, _, _, _⟩) _ rfl _ _ 40 40 rfl _ _ rfl rfl (hcpA (w.alloc (.cells R0 42)).drew rfl _ _ _ (by omega)) ?_))
  go_region_law_o (refine Go.Proofs.step_copy_runI rfl _ _ 40 40 rfl (.slice (some ⟨w.heap.size, (i + 1) * 4, none⟩) (l.length - i) (G - (i + 1))) (.slice (some ⟨g, i * 4, none⟩) (l.length - i) (l.length - i)) (by simp [Act.eval, Act.put]) (by simp [Act.eval, Act.put]) (hcpB (((w.alloc (.cells R0 42)).drew.setRow w.heap.size R1.toArray).drew) rfl 3 _ _ _ _ rfl rfl) ?_)
  go_wp2
  go_ret
  refine ⟨_, rfl, ?_, ?_⟩
  · have hgW : ((w.alloc (.cells R0 42)).drew.setRow w.heap.size R1.toArray).drew.heap[w.heap.size]? = some (.cells R1.toArray 42 (0, 0)) := setRow_heap _ _ R0 _ _ _ (heap_alloc_new w _)
    have hlen : (l.take i ++ x :: l.drop i).length = l.length + 1 := by simp only [List.length_append, List.length_take, List.length_cons, List.length_drop]; omega
    show World.ownsRow _ _ _ _ _ _ _
    rw [hlen]
    exact owns_setRow hgW HB.out HGN.out HGM.out HR.out.1 (by rw [flat_len _ _ cellsC_len _, hlen]) HR.out.2
  · exact below_setRow (below_setRow ((Below.refl _ _).alloc HB.out _).drew HB.out _).drew HB.out _
end Go.Proofs.Ytpkoehnjladpoaa
/- The contracts of slices.Insert and slices.Delete of one cell, at a row of one's own. -/
namespace Go.Proofs.Ytpkoehnjladpoaa
open Go.RowKit
open Sl (Cl Kd)
theorem insertC_any (B vb vc i : Nat) (v : Value) (l : List Cl) (x : Cl) (T : TypeId) (w : World) (hi : i ≤ l.length) (hl : l.length ≤ 100000) (hv : RowC w B v l) (hB : B ≤ w.heap.size) (hvb : w.heap[vb]? = some (.cells (cellsC x).toArray T (0, 0))) (hne : v.ownBlock ≠ some vb) :
    Calls Try.prog 108 #[v, .int .i64 i, .slice (some ⟨vb, 0, none⟩) 1 vc] w (InsOutC B (l.take i ++ x :: l.drop i) w) := by
  by_cases he : i = l.length
  · subst he
    rw [List.take_length, List.drop_length]
    exact insertC_end B vb vc v l x T w hv hB hl hvb
  · obtain ⟨_, h1⟩ := hv
    rcases h1 with ⟨rfl, h0⟩ | ⟨g, cap, cur, rfl, hg, hh, hn, hm, hs, ht⟩
    · omega
    · have hng : vb ≠ g := fun h => hne (by rw [h]; rfl)
      by_cases hr : l.length + 1 ≤ cap
      · exact insertC_shift B g cap i vb vc cur l x T w (by omega) hr hm hh hg hs ht hvb hng
      · exact insertC_grow B g cap i vb vc cur l x T w (by omega) hn hr hl hB hh ht hvb
theorem flat_cutC : ∀ (l : List Cl) (i : Nat), (l.flatMap cellsC).take (i * 4) = (l.take i).flatMap cellsC ∧ (l.flatMap cellsC).drop (i * 4) = (l.drop i).flatMap cellsC := by
  intro l
  induction l with
  | nil => intro i; simp
  | cons y t ih =>
    intro i
    cases i with
    | zero => simp
    | succ i =>
      obtain ⟨h1, h2⟩ := ih i
      have hl := cellsC_len y
      rw [List.flatMap_cons, List.take_succ_cons, List.drop_succ_cons, List.flatMap_cons, show (i + 1) * 4 = (cellsC y).length + i * 4 by rw [hl]; omega, List.take_append, List.drop_append]
      rw [List.take_of_length_le (by omega), List.drop_of_length_le (by omega), Nat.add_sub_cancel_left, h1, h2]
      exact ⟨rfl, rfl⟩
/-- The row is shorter; nothing but its own block is another. -/
inductive DelOutC (B : Nat) (u : Value) (l : List Cl) (w : World) (e : Ending) (w' : World) : Prop
  | mk (v : Value) (he : e = .returned v) (hr : RowC w' B v l) (hb : Below B w w') (hk : ∀ k, u.ownBlock ≠ some k → w'.heap[k]? = w.heap[k]?) (hz : w.heap.size ≤ w'.heap.size) (ho : v.ownBlock = u.ownBlock)
def zlC : List Value := [.string ⟨#[]⟩, .string ⟨#[]⟩, .int .u32 0, .int .u32 0]
set_option maxHeartbeats 8000000 in
theorem delC_any (B i : Nat) (v : Value) (l : List Cl) (w : World) (hi : i < l.length) (hl : l.length ≤ 100000) (hv : RowC w B v l) :
    Calls Try.prog 58 #[v, .int .i64 i, .int .i64 ((i : Int) + 1)] w (DelOutC B v (l.take i ++ l.drop (i + 1)) w) := by
  obtain ⟨i0, hi0, hz0, hz1, hz2⟩ := info_parts info42
  obtain ⟨_, h1⟩ := hv
  rcases h1 with ⟨rfl, h0⟩ | ⟨g, cap, cur, rfl, hB, hg, hn, hm, hsz, htk⟩
  · omega
  · have hflen : (l.flatMap cellsC).length = l.length * 4 := flat_len _ _ cellsC_len _
    have hcl : cur.toList.length = cap * 4 := by simpa using hsz
    obtain ⟨news, hnews⟩ : ∃ news, news = (l.flatMap cellsC).drop (i * 4 + 4) := ⟨_, rfl⟩
    have hnl : news.length = (l.length - (i + 1)) * 4 := by rw [hnews, List.length_drop, hflen]; omega
    have hin : ∀ j, j < cap * 4 → (w.drew.cell? ⟨g, j, none⟩).isSome = true ∧ w.drew.frozen? ⟨g, j, none⟩ = false := fun j hj => by
      refine ⟨?_, by show w.frozen? _ = false; simp [World.frozen?, hg]⟩
      show (w.cell? _).isSome = true
      rw [cell_of_row w g j _ _ (0, 0) hg, Array.getElem?_eq_getElem (by omega)]
      rfl
    obtain ⟨A, hA, hsrc⟩ : ∃ A : Addr, (if cap = i + 1 then (some ⟨g, 0, none⟩ : Option Addr) else some ⟨g, (i + 1) * 4, none⟩) = some A ∧ Hid (∀ j u, news[j]? = some u → w.drew.cell? (A.add j) = some u) := by
      by_cases h : cap = i + 1
      · refine ⟨⟨g, 0, none⟩, by simp [h], fun j u hu => ?_⟩
        have hz : news.length = 0 := by rw [hnl]; omega
        rw [List.length_eq_zero_iff.1 hz] at hu
        simp at hu
      · refine ⟨⟨g, (i + 1) * 4, none⟩, by simp [h], fun j u hu => ?_⟩
        exact rowAtC w.drew g cur l hg htk (i + 1) j u (by rw [show (i + 1) * 4 = i * 4 + 4 by omega, ← hnews]; exact hu)
    have s1 : Hid (news.length = (l.length - (i + 1)) * 4) := hnl
    have s2 : Hid (∀ u ∈ news, u.oneCell' = true) := fun u hu => flat_oneC l u (by rw [hnews] at hu; exact List.mem_of_mem_drop hu)
    have s3 : Hid (∀ t, t < news.length → (w.drew.cell? ⟨g, 0 + i * 4 + t, none⟩).isSome = true ∧ w.drew.frozen? ⟨g, 0 + i * 4 + t, none⟩ = false) := fun t ht => hin _ (by rw [hnl] at ht; omega)
    obtain ⟨W1, hW1⟩ : ∃ W1, W1 = w.drew.setCells g (0 + i * 4) news := ⟨_, rfl⟩
    obtain ⟨R1, hR1⟩ : ∃ R1, R1 = cur.toList.take (i * 4) ++ (l.flatMap cellsC).drop (i * 4 + 4) ++ cur.toList.drop (i * 4 + ((l.flatMap cellsC).drop (i * 4 + 4)).length) := ⟨_, rfl⟩
    have hR1l : R1.length = cap * 4 := by rw [hR1]; simp only [List.length_append, List.length_take, List.length_drop, hcl, hflen]; omega
    have hW1' : W1 = w.drew.setRow g R1.toArray := by
      rw [hW1, Nat.zero_add, setCells_row g 42 news (i * 4) cur w.drew hg (by rw [hnl, hsz]; omega), hR1, hnews]
    have hg1 : W1.heap[g]? = some (.cells R1.toArray 42 (0, 0)) := by rw [hW1']; exact setRow_heap w.drew g cur _ _ _ hg
    have hone : l.length - (i + (l.length - (i + 1))) = 1 := by omega
    have hoff : (i + (l.length - (i + 1))) * 4 = l.length * 4 - 4 := by omega
    have hcl1 : ∀ ty, (Builtin.clear_ #[40] ty #[.slice (some ⟨g, (i + (l.length - (i + 1))) * 4, none⟩) (l.length - (i + (l.length - (i + 1)))) (cap - (i + (l.length - (i + 1))))]).run Try.prog W1 = .ok (.tuple #[]) (W1.setCells g (l.length * 4 - 4) zlC) := fun ty => by
      rw [hone, hoff]
      exact run_clear_one W1 _ 42 ty (.agg zlC.toArray) zlC rfl Try.underlying40 (fun w => by kernel_rfl) (by decide) g (l.length * 4 - 4) _ (fun j hj => by
        have hj4 : j < 4 := hj
        rw [cell_of_row W1 g _ _ _ (0, 0) hg1, Array.getElem?_eq_getElem (by rw [List.size_toArray, hR1l]; omega)]; rfl) (fun j hj => by simp [World.frozen?, hg1])
    have HFIN : Hid ((W1.setCells g (l.length * 4 - 4) zlC).ownsRow B 42 4 (.slice (some ⟨g, 0, none⟩) (i + (l.length - (i + 1))) cap) (i + (l.length - (i + 1))) ((l.take i ++ l.drop (i + 1)).flatMap cellsC) ∧ Below B w (W1.setCells g (l.length * 4 - 4) zlC) ∧ (∀ k, g ≠ k → (W1.setCells g (l.length * 4 - 4) zlC).heap[k]? = w.heap[k]?)) := by
      have hzl : zlC.length = 4 := rfl
      rw [setCells_row g 42 zlC (l.length * 4 - 4) R1.toArray W1 hg1 (by rw [hzl, List.size_toArray, hR1l]; omega)]
      refine ⟨?_, ?_, fun k hk => by rw [hW1', setRow_other _ g k _ (Ne.symm hk), setRow_other _ g k _ (Ne.symm hk)]; rfl⟩
      · have hfl : ((l.take i ++ l.drop (i + 1)).flatMap cellsC).length = (i + (l.length - (i + 1))) * 4 := by
          rw [flat_len _ _ cellsC_len _, List.length_append, List.length_take, List.length_drop]; omega
        refine owns_setRow hg1 hB (by omega) hm ?_ hfl ?_
        · rw [hR1]
          show (List.take _ _ ++ _ ++ List.drop _ _).length = _
          rw [seg_del_len (i * 4) (l.length * 4) 4 cur.toList (l.flatMap cellsC) zlC (by omega) htk (by rw [hcl]; omega) hzl, hcl]
        · rw [hoff, hR1]
          show List.take _ (List.take _ _ ++ _ ++ List.drop _ _) = _
          rw [seg_del (i * 4) (l.length * 4) 4 cur.toList (l.flatMap cellsC) zlC (by omega) htk (by rw [hcl]; omega) hzl, (flat_cutC l i).1, show i * 4 + 4 = (i + 1) * 4 by omega, (flat_cutC l (i + 1)).2, List.flatMap_append]
      · rw [hW1']
        exact below_setRow (below_setRow (Below.refl _ _).drew hB _) hB _
    have hW : Hid (W1 = w.drew.setCells g (0 + i * 4) news) := hW1
    have hlen : Hid ((l.take i ++ l.drop (i + 1)).length = i + (l.length - (i + 1))) := by show _ = _; rw [List.length_append, List.length_take, List.length_drop]; omega
    unfold maxLen at hm
    have hie : ¬ ((i : Int) = (i : Int) + 1) := by omega
    have hie2 : ((i : Int) == (i : Int) + 1) = false := by rw [beq_eq_false_iff_ne]; exact hie
    have hb1 : (0 : Int) ≤ (i : Int) + 1 := by omega
    have htn : ((i : Int) + 1).toNat = i + 1 := by omega
    have hb2 : (i : Int) + 1 ≤ (l.length : Int) := by omega
    have hb3 : i ≤ cap := by omega
    have hb4 : i + 1 ≤ cap := by omega
    have hb6 : ¬ (cap = i + (l.length - (i + 1))) := by omega
    have hb7 : i + (l.length - (i + 1)) ≤ l.length := by omega
    have mixed : Try.prog.follows Departure.mixedOrders = true := by kernel_rfl
    clear hW1 hW1' hg1 hR1 hR1l hin hnews hnl hcl hflen hsz htk hg hone hoff hi
    go_enter Try.func58, Try.ntmps58
    go_wp2_with fail
    go_region_law_o (refine step_append_room rfl (.tmp 22) (.tmp 25) 40 rfl 42 i0 4 Try.underlying40 hi0 hz1 g 0 i cap (by simp [Act.eval, Act.put]) A (l.length - (i + 1)) (cap - (i + 1)) news (by simp [Act.eval, Act.put]) s1.out hsrc.out s2.out (by omega) s3.out ?_; rw [← hW.out])
    go_wp2
    go_ret
    refine ⟨_, rfl, ?_, HFIN.out.2.1, fun k hk => HFIN.out.2.2 k (fun h => hk (by rw [← h]; rfl)), HFIN.out.2.1.size, rfl⟩
    show World.ownsRow _ _ _ _ _ _ _
    rw [hlen.out]
    exact HFIN.out.1
end Go.Proofs.Ytpkoehnjladpoaa
/- The contract of Find, at a leaf's cells, over rising keys. -/
namespace Go.Proofs.Ytpkoehnjladpoaa
open Go.RowKit
open Sl (Cl Kd)
theorem box4 {w w1 : World} {x0 x1 x2 x3 : Value} {T : TypeId} (hb : Below (w.alloc (.cells #[x0, x1, x2, x3] T)).heap.size (w.alloc (.cells #[x0, x1, x2, x3] T)) w1) : Below w.heap.size w w1 :=
  below_step ((Below.refl _ _).alloc (Nat.le_refl _) _) hb
theorem compare_any (a b : List UInt8) (w : World) :
    Calls Try.prog 105 #[.string (str a), .string (str b)] w fun e w' => e = .returned (.int .i64 (Lib.compareBytes a b)) ∧ w = w' :=
  (Try.strings_Compare (str a) (str b) w).mono fun _ _ ⟨h1, h2⟩ => ⟨h1, h2.symm⟩
theorem findFnC_any (x : Cl) (key : List UInt8) (g : Nat) (w : World) (hb : BxC w g) :
    Calls Try.prog 104 #[aggC x, .string (str key), .pointer (some ⟨g, 0, none⟩)] w fun e w' => e = .returned (.int .i64 (Lib.compareBytes (Sl.shC.key x) key)) ∧ Below w.heap.size w w' := by
  have HK := Lib.hid (fun W => keyC2_any x W)
  have HA := Lib.hid (fun o1 => hb.alloc o1)
  have q0 := fun o1 => (HA.out o1).c0
  have q1 := fun o1 => (HA.out o1).c1
  have q2 := fun o1 => (HA.out o1).c2
  have q3 := fun o1 => (HA.out o1).c3
  revert HK
  generalize Sl.shC.key x = kx
  intro HK
  unfold shpC aggC at HK
  unfold aggC
  go_enter Try.func104, Try.ntmps104
  go_wp2_with (first
    | (go_at_call 106; refine (HK.out _).mono ?_; rintro e w1 ⟨rfl, hb1⟩)
    | (go_at_call 105; refine (compare_any _ _ _).mono ?_; rintro e w2 ⟨rfl, rfl⟩))
  go_ret
  exact ⟨rfl, below_step ((Below.refl _ _).alloc (Nat.le_refl _) _) hb1⟩
set_option maxHeartbeats 4000000 in
set_option maxRecDepth 100000 in
theorem bsfC_any (v : Value) (l : List Cl) (hll : l.length ≤ 100000) (key : List UInt8) (g : Nat) (w : World) (hv : SlC w v l) (hb : BxC w g) (hr : Sl.rises Sl.shC l = true) :
    Calls Try.prog 103 #[v, .string (str key), .func (.func 104) #[] #[.pointer (some ⟨g, 0, none⟩)]] w fun e w' => e = .returned (.tuple #[.int .i64 (Sl.place Sl.shC l key : Nat), .bool (Sl.there Sl.shC l key)]) ∧ Below w.heap.size w w' := by
  have HR := Lib.hid hr
  have HBX := Lib.hid hb
  obtain ⟨a, b, o, c, rfl, ha, hx⟩ := hv
  have HX := Lib.hid hx
  have HA := Lib.hid ha
  clear ha hx hr hb
  go_enter Try.func103, Try.ntmps103
  go_wp2
  go_loopg [9, 10] l.length (fun n i j wr => ∃ p q : Nat, p ≤ q ∧ q ≤ l.length ∧ n = q - p ∧ i = .int .i64 p ∧ j = .int .i64 q ∧ Hid (∀ m x, m < p → l[m]? = some x → Sl.less (Sl.shC.key x) key = true) ∧ Hid (∀ m x, q ≤ m → l[m]? = some x → Sl.less (Sl.shC.key x) key = false) ∧ Hid (Below w.heap.size w wr))
  case atStart => exact ⟨0, l.length, Nat.zero_le _, Nat.le_refl _, rfl, rfl, rfl, fun m x h => absurd h (Nat.not_lt_zero m), fun m x h hx => absurd (List.getElem?_eq_some_iff.1 hx).1 (Nat.not_lt.2 h), Below.refl _ _⟩
  case round =>
    obtain ⟨p, q, hpq, hql, rfl, rfl, rfl, HLO, HHI, HB⟩ := hrel
    by_cases hlt : p < q
    · obtain ⟨h, hh⟩ : ∃ h : Nat, h = (p + q) / 2 := ⟨_, rfl⟩
      obtain ⟨x, hx⟩ := take_some l h (by omega)
      have HXK := Lib.hid hx
      obtain ⟨e0, e1, e2, e3⟩ := HX.out h x hx
      have hblt : b < w.heap.size := World.block_lt_of_cell? _ _ e0
      have d0 := (HB.out.cell (p := ⟨b, o + h * 4, none⟩) hblt).trans e0
      have d1 := (HB.out.cell (p := ⟨b, o + h * 4 + 1, none⟩) hblt).trans e1
      have d2 := (HB.out.cell (p := ⟨b, o + h * 4 + 2, none⟩) hblt).trans e2
      have d3 := (HB.out.cell (p := ⟨b, o + h * 4 + 3, none⟩) hblt).trans e3
      have HBr := Lib.hid (HBX.out.below HB.out HBX.out.lt)
      obtain rfl : a = some ⟨b, o, none⟩ := by
        rcases HA.out with h' | h'
        · rw [h'] at hql; have : q ≤ 0 := hql; omega
        · exact h'
      have HC := Lib.hid (fun W (hW : BxC W g) => findFnC_any x key g W hW)
      unfold aggC at HC
      have hlo := Lib.hid (Sl.low_of Sl.shC l key HR.out h x hx)
      have hhi := Lib.hid (Sl.high_of Sl.shC l key HR.out h x hx)
      have hcl := Lib.hid (Sl.cmp_lt (Sl.shC.key x) key)
      have hcg := Lib.hid (Sl.cmp_ge (Sl.shC.key x) key)
      have hhE : ((p : Int) + q) / 2 = (h : Int) := by omega
      have hb1 : p ≤ h := by omega
      have hb2 : h < q := by omega
      have hb3 : h < l.length := by omega
      have hb4 : (h : Int) < l.length := by omega
      clear e0 e1 e2 e3 hx hh
      revert HC hlo hhi hcl hcg
      generalize Lib.compareBytes (Sl.shC.key x) key = cv
      generalize hls : Sl.less (Sl.shC.key x) key = ls
      have HLS := Lib.hid hls
      clear hls
      intro HC hlo hhi hcl hcg
      go_upto_region 5 with fail
      clear hhE
      cases ls
      · have hcv := hcg.out rfl
        clear hcl hcg
        go_wp2_with (go_at_call 104; refine (HC.out _ HBr.out).mono ?_; rintro e w4 ⟨rfl, hb5⟩)
        have HB4 : Hid (Below w.heap.size w w4) := HB.out.trans (hb5.mono HB.out.size)
        clear hb5
        go_roundg (h - p)
        case measure => omega
        case rel => exact ⟨p, h, by omega, by omega, rfl, rfl, rfl, HLO, hhi.out (by simp), HB4⟩
      · have hcv := hcl.out rfl
        clear hcl hcg
        go_wp2_with (go_at_call 104; refine (HC.out _ HBr.out).mono ?_; rintro e w4 ⟨rfl, hb5⟩)
        have HB4 : Hid (Below w.heap.size w w4) := HB.out.trans (hb5.mono HB.out.size)
        clear hb5
        go_roundg (q - (h + 1))
        case measure => omega
        case rel => exact ⟨h + 1, q, by omega, by omega, rfl, by go_num, rfl, hlo.out (by simp), HHI, HB4⟩
    · obtain rfl : p = q := by omega
      have HPL : Hid (Sl.place Sl.shC l key = p) := Sl.place_eq Sl.shC key l p hql HLO.out (fun x hx => HHI.out p x (Nat.le_refl _) hx)
      by_cases hn : p < l.length
      · obtain ⟨x, hx⟩ := take_some l p hn
        obtain ⟨e0, e1, e2, e3⟩ := HX.out p x hx
        have hblt : b < w.heap.size := World.block_lt_of_cell? _ _ e0
        have d0 := (HB.out.cell (p := ⟨b, o + p * 4, none⟩) hblt).trans e0
        have d1 := (HB.out.cell (p := ⟨b, o + p * 4 + 1, none⟩) hblt).trans e1
        have d2 := (HB.out.cell (p := ⟨b, o + p * 4 + 2, none⟩) hblt).trans e2
        have d3 := (HB.out.cell (p := ⟨b, o + p * 4 + 3, none⟩) hblt).trans e3
        have HBr := Lib.hid (HBX.out.below HB.out HBX.out.lt)
        obtain rfl : a = some ⟨b, o, none⟩ := by
          rcases HA.out with h' | h'
          · rw [h'] at hn; cases hn
          · exact h'
        have HC := Lib.hid (fun W (hW : BxC W g) => findFnC_any x key g W hW)
        unfold aggC at HC
        have HTH : Hid (Sl.there Sl.shC l key = (Lib.compareBytes (Sl.shC.key x) key == 0)) := (Sl.there_some Sl.shC l key x (by rw [HPL.out]; exact hx)).trans (Sl.cmp_zero _ _).symm
        have hn' : (p : Int) < l.length := by omega
        clear e0 e1 e2 e3 hx
        revert HC HTH
        generalize Lib.compareBytes (Sl.shC.key x) key = cv
        intro HC HTH
        go_wp2_with (go_at_call 104; refine (HC.out _ HBr.out).mono ?_; rintro e w4 ⟨rfl, hb5⟩)
        go_ret2
        exact ⟨by rw [HPL.out, HTH.out]; rfl, HB.out.trans (hb5.mono HB.out.size)⟩
      · have HTH : Hid (Sl.there Sl.shC l key = false) := Sl.there_none Sl.shC l key (by rw [HPL.out]; omega)
        have hn' : ¬ (p : Int) < l.length := by omega
        go_wp2
        go_ret2
        exact ⟨by rw [HPL.out, HTH.out]; rfl, HB.out⟩
set_option maxHeartbeats 1000000 in
theorem findC_any (v : Value) (l : List Cl) (hll : l.length ≤ 100000) (key : List UInt8) (w : World) (hv : SlC w v l) (hr : Sl.rises Sl.shC l = true) :
    Calls Try.prog 57 #[shpC, v, .string (str key)] w fun e w' => e = .returned (.tuple #[.int .i64 (Sl.place Sl.shC l key : Nat), .bool (Sl.there Sl.shC l key)]) ∧ Below w.heap.size w w' := by
  have hmf : ∀ (fn : Fn) (first cap : Array Value) (w : World), (Instr.makeFunc fn first cap).run Try.prog w = .ok (.func fn first cap) w := fun _ _ _ _ => rfl
  have HWh := Lib.hid (fun W => wholeC_any W)
  have HB0 := Lib.hid (BxC.new w)
  have HS := Lib.hid (fun W (hW : SlC W v l) (hb : BxC W w.heap.size) => bsfC_any v l hll key w.heap.size W hW hb hr)
  have HV := Lib.hid (fun W (hW : Below w.heap.size w W) => hv.below hW)
  have HW0 : Hid (Below w.heap.size w (w.alloc (.cells #[.func (.func 97) #[] #[], .func (.func 98) #[] #[], .func (.func 99) #[] #[], .func (.func 100) #[] #[]] 110))) := (Below.refl _ _).alloc (Nat.le_refl _) _
  clear hv hr
  revert HS
  generalize Sl.place Sl.shC l key = pl
  generalize Sl.there Sl.shC l key = th
  intro HS
  unfold shpC at HWh ⊢
  go_enter Try.func57, Try.ntmps57
  go_wp2_with (first
    | (go_at_call 102; refine (HWh.out _).mono ?_; rintro e w1 ⟨rfl, hb1⟩; have HB1 := Lib.hid (below_step HW0.out hb1); have HR1 := Lib.hid (HB0.out.below hb1 HB0.out.lt))
    | (go_at_call 103; refine (HS.out _ (HV.out _ HB1.out) HR1.out).mono ?_; rintro e w2 ⟨rfl, hb2⟩))
  go_ret2
  exact ⟨rfl, below_step HB1.out hb2⟩
end Go.Proofs.Ytpkoehnjladpoaa
/- A cell put into its place, and cut; nothing of the program. -/
namespace Go.Proofs.Ytpkoehnjladpoaa.Sl
variable {α : Type}
def putL (S : Sh α) (l : List α) (x : α) : List α := if there S l (S.key x) then l.take (place S l (S.key x)) ++ x :: l.drop (place S l (S.key x) + 1) else l.take (place S l (S.key x)) ++ x :: l.drop (place S l (S.key x))
def cutL (S : Sh α) (l : List α) (k : List UInt8) : List α := if there S l k then l.take (place S l k) ++ l.drop (place S l k + 1) else l
theorem there_at (S : Sh α) (l : List α) (k : List UInt8) (h : there S l k = true) : ∃ y, l[place S l k]? = some y ∧ S.key y = k ∧ place S l k < l.length := by
  unfold there at h
  cases hy : l[place S l k]? with
  | none => rw [hy] at h; cases h
  | some y => rw [hy] at h; exact ⟨y, rfl, of_decide_eq_true h, (List.getElem?_eq_some_iff.1 hy).1⟩
end Go.Proofs.Ytpkoehnjladpoaa.Sl
/- The contract of with: a row of cells, and one more in its place. -/
namespace Go.Proofs.Ytpkoehnjladpoaa
open Go.RowKit
open Sl (Cl Kd Nd Rn)
theorem flat_setC : ∀ (l : List Cl) (p : Nat) (x : Cl), p < l.length → ((((l.flatMap cellsC).set (p * 4) (.string (str x.key))).set (p * 4 + 1) (.string (str x.val))).set (p * 4 + 2) (.int .u32 x.chain)).set (p * 4 + 3) (.int .u32 x.long) = (l.take p ++ x :: l.drop (p + 1)).flatMap cellsC
  | [], p, x, h => absurd h (Nat.not_lt_zero _)
  | y :: t, 0, x, _ => by simp [cellsC]
  | y :: t, p + 1, x, h => by
    have ih := flat_setC t p x (by simpa using h)
    have hy := cellsC_len y
    rw [List.take_succ_cons, List.drop_succ_cons, List.cons_append, List.flatMap_cons, List.flatMap_cons, ← ih]
    rw [List.set_append_right _ _ (by omega), show (p + 1) * 4 - (cellsC y).length = p * 4 by omega, List.set_append_right _ _ (by omega), show (p + 1) * 4 + 1 - (cellsC y).length = p * 4 + 1 by omega, List.set_append_right _ _ (by omega), show (p + 1) * 4 + 2 - (cellsC y).length = p * 4 + 2 by omega, List.set_append_right _ _ (by omega), show (p + 1) * 4 + 3 - (cellsC y).length = p * 4 + 3 by omega]

theorem row_someC {w : World} {B : Nat} {v : Value} {l : List Cl} (h : RowC w B v l) (hl : 0 < l.length) :
    ∃ g cap, v = .slice (some ⟨g, 0, none⟩) l.length cap ∧ B ≤ g ∧ l.length ≤ cap ∧ cap ≤ maxLen ∧ (∀ j u, (l.flatMap cellsC)[j]? = some u → w.cell? ⟨g, j, none⟩ = some u) ∧ ∀ j, w.frozen? ⟨g, j, none⟩ = false := by
  rcases h.2 with ⟨_, h0⟩ | ⟨g, cap, cur, hv, hB, hg, hn, hm, hs, ht⟩
  · omega
  · refine ⟨g, cap, hv, hB, hn, hm, fun j u hj => ?_, fun j => by simp [World.frozen?, hg]⟩
    rw [cell_of_row w g j _ _ (0, 0) hg]
    rw [← ht] at hj
    have hlt := (List.getElem?_eq_some_iff.1 hj).1
    rw [List.length_take] at hlt
    rw [List.getElem?_take_of_lt (by omega)] at hj
    simpa using hj
set_option maxHeartbeats 8000000 in
theorem withC_any (v : Value) (l : List Cl) (x : Cl) (hl : l.length ≤ 90000) (hr : Sl.rises Sl.shC l = true) (w : World) (hv : SlC w v l) :
    Calls Try.prog 61 #[shpC, v, aggC x] w (OwnC (Sl.putL Sl.shC l x) w) := by
  have HFD := Lib.hid (fun W (hW : Below w.heap.size w W) => findC_any v l (by omega) (Sl.shC.key x) W (hv.below hW) hr)
  have HCL := Lib.hid (fun W (hW : Below w.heap.size w W) => cloneC_any v l (by omega) W (hv.below hW))
  have HK := Lib.hid (fun W => keyC_any x W)
  have hple := Sl.place_le Sl.shC l (Sl.shC.key x)
  have hth := Sl.there_at Sl.shC l (Sl.shC.key x)
  have HPT : Hid (Sl.putL Sl.shC l x = if Sl.there Sl.shC l (Sl.shC.key x) then l.take (Sl.place Sl.shC l (Sl.shC.key x)) ++ x :: l.drop (Sl.place Sl.shC l (Sl.shC.key x) + 1) else l.take (Sl.place Sl.shC l (Sl.shC.key x)) ++ x :: l.drop (Sl.place Sl.shC l (Sl.shC.key x))) := rfl
  have HIN := Lib.hid (fun B vb vc v T W hv hB hvb hne => insertC_any B vb vc (Sl.place Sl.shC l (Sl.shC.key x)) v l x T W hple (by omega) hv hB hvb hne)
  generalize Sl.putL Sl.shC l x = L at HPT ⊢
  obtain ⟨a, b, o, c, rfl, ha, hx⟩ := hv
  clear ha hx hr
  generalize Sl.place Sl.shC l (Sl.shC.key x) = p at *
  generalize Sl.there Sl.shC l (Sl.shC.key x) = th at *
  unfold shpC aggC at *
  have hF : Hid (((w.alloc (.cells #[.func (.func 97) #[] #[], .func (.func 98) #[] #[], .func (.func 99) #[] #[], .func (.func 100) #[] #[]] 110)).alloc (.cells #[.string (str x.key), .string (str x.val), .int .u32 x.chain, .int .u32 x.long] 42)).drew.cell? ⟨w.heap.size, 0, none⟩ = some (.func (.func 97) #[] #[]) ∧ ((w.alloc (.cells #[.func (.func 97) #[] #[], .func (.func 98) #[] #[], .func (.func 99) #[] #[], .func (.func 100) #[] #[]] 110)).alloc (.cells #[.string (str x.key), .string (str x.val), .int .u32 x.chain, .int .u32 x.long] 42)).drew.cell? ⟨w.heap.size, 1, none⟩ = some (.func (.func 98) #[] #[]) ∧ ((w.alloc (.cells #[.func (.func 97) #[] #[], .func (.func 98) #[] #[], .func (.func 99) #[] #[], .func (.func 100) #[] #[]] 110)).alloc (.cells #[.string (str x.key), .string (str x.val), .int .u32 x.chain, .int .u32 x.long] 42)).drew.cell? ⟨w.heap.size, 2, none⟩ = some (.func (.func 99) #[] #[]) ∧ ((w.alloc (.cells #[.func (.func 97) #[] #[], .func (.func 98) #[] #[], .func (.func 99) #[] #[], .func (.func 100) #[] #[]] 110)).alloc (.cells #[.string (str x.key), .string (str x.val), .int .u32 x.chain, .int .u32 x.long] 42)).drew.cell? ⟨w.heap.size, 3, none⟩ = some (.func (.func 100) #[] #[]) ∧ ((w.alloc (.cells #[.func (.func 97) #[] #[], .func (.func 98) #[] #[], .func (.func 99) #[] #[], .func (.func 100) #[] #[]] 110)).alloc (.cells #[.string (str x.key), .string (str x.val), .int .u32 x.chain, .int .u32 x.long] 42)).drew.cell? ⟨w.heap.size + 1, 0, none⟩ = some (.string (str x.key)) ∧ ((w.alloc (.cells #[.func (.func 97) #[] #[], .func (.func 98) #[] #[], .func (.func 99) #[] #[], .func (.func 100) #[] #[]] 110)).alloc (.cells #[.string (str x.key), .string (str x.val), .int .u32 x.chain, .int .u32 x.long] 42)).drew.cell? ⟨w.heap.size + 1, 1, none⟩ = some (.string (str x.val)) ∧ ((w.alloc (.cells #[.func (.func 97) #[] #[], .func (.func 98) #[] #[], .func (.func 99) #[] #[], .func (.func 100) #[] #[]] 110)).alloc (.cells #[.string (str x.key), .string (str x.val), .int .u32 x.chain, .int .u32 x.long] 42)).drew.cell? ⟨w.heap.size + 1, 2, none⟩ = some (.int .u32 x.chain) ∧ ((w.alloc (.cells #[.func (.func 97) #[] #[], .func (.func 98) #[] #[], .func (.func 99) #[] #[], .func (.func 100) #[] #[]] 110)).alloc (.cells #[.string (str x.key), .string (str x.val), .int .u32 x.chain, .int .u32 x.long] 42)).drew.cell? ⟨w.heap.size + 1, 3, none⟩ = some (.int .u32 x.long) ∧ Below w.heap.size w ((w.alloc (.cells #[.func (.func 97) #[] #[], .func (.func 98) #[] #[], .func (.func 99) #[] #[], .func (.func 100) #[] #[]] 110)).alloc (.cells #[.string (str x.key), .string (str x.val), .int .u32 x.chain, .int .u32 x.long] 42)).drew) :=
    ⟨box0 w _ _ _ _ 0, box0 w _ _ _ _ 1, box0 w _ _ _ _ 2, box0 w _ _ _ _ 3, box1 w _ _ _ _ 0, box1 w _ _ _ _ 1, box1 w _ _ _ _ 2, box1 w _ _ _ _ 3, (boxB w _ _).drew⟩
  have HPL := Lib.hid hple
  have HTH := Lib.hid hth
  clear hple hth
  cases th with
  | true =>
    obtain ⟨y, hy, _, hpl⟩ := HTH.out rfl
    have HL : Hid (L = l.take p ++ x :: l.drop (p + 1)) := HPT.out
    have HY := Lib.hid hy
    have HLP := Lib.hid hpl
    clear HTH HPT hy hpl
    go_enter Try.func61, Try.ntmps61
    go_wp2_with fail
    go_region_held3 (fun w' => w'.cell? ⟨w.heap.size, 0, none⟩ = some (.func (.func 97) #[] #[]) ∧ w'.cell? ⟨w.heap.size, 1, none⟩ = some (.func (.func 98) #[] #[]) ∧ w'.cell? ⟨w.heap.size, 2, none⟩ = some (.func (.func 99) #[] #[]) ∧ w'.cell? ⟨w.heap.size, 3, none⟩ = some (.func (.func 100) #[] #[]) ∧ w'.cell? ⟨w.heap.size + 1, 0, none⟩ = some (.string (str x.key)) ∧ w'.cell? ⟨w.heap.size + 1, 1, none⟩ = some (.string (str x.val)) ∧ w'.cell? ⟨w.heap.size + 1, 2, none⟩ = some (.int .u32 x.chain) ∧ w'.cell? ⟨w.heap.size + 1, 3, none⟩ = some (.int .u32 x.long) ∧ Below w.heap.size w w')
      ((first | assumption | exact step8 (Nat.le_refl _) ‹_› hb | exact hF.out))
      (first
      | (go_at_call 57; (refine (HFD.out _ (last8 (by assumption))).mono ?_); rintro e w2 ⟨rfl, hb⟩)
      | (go_at_call 99; refine (HK.out _).mono ?_; rintro e w1 ⟨rfl, hb⟩))
    rename_i hS
    have HS := Lib.hid hS
    clear hS
    have HLS := Lib.hid (last8 HS.out)
    go_wp2_with (go_at_call 95; (refine (HCL.out _ HLS.out).mono ?_))
    rintro e w5 ⟨v5, rfl, hr5, hb5⟩
    have HS5 := Lib.hid (step8 (Nat.le_refl _) HS.out hb5)
    obtain ⟨g, cap, rfl, hg, hnc, hcm, hcell, hfr⟩ := row_someC hr5 (by have := HLP.out; omega)
    have HR5 := Lib.hid (hr5.base HLS.out.size)
    have HGB := Lib.hid (Nat.le_trans HLS.out.size hg)
    obtain ⟨_, _, _, _, x0, x1, x2, x3, _⟩ := HS5.out
    have hpl := HLP.out
    have hpi : (p : Int) < (l.length : Int) := by omega
    have ck0 := hcell (p * 4 + 0) _ (flat_at cellsC 4 cellsC_len l p 0 y HY.out (by decide))
    have ck1 := hcell (p * 4 + 1) _ (flat_at cellsC 4 cellsC_len l p 1 y HY.out (by decide))
    have ck2 := hcell (p * 4 + 2) _ (flat_at cellsC 4 cellsC_len l p 2 y HY.out (by decide))
    have ck3 := hcell (p * 4 + 3) _ (flat_at cellsC 4 cellsC_len l p 3 y HY.out (by decide))
    rw [Nat.add_zero] at ck0
    have HFRZ := Lib.hid hfr
    clear hcell hr5 hg hnc hcm hfr
    have fz0 := HFRZ.out (p * 4)
    have fz1 := HFRZ.out (p * 4 + 1)
    have fz2 := HFRZ.out (p * 4 + 2)
    have fz3 := HFRZ.out (p * 4 + 3)
    go_wp2
    go_ret
    have hlen : (l.take p ++ x :: l.drop (p + 1)).length = l.length := by have := HLP.out; simp only [List.length_append, List.length_take, List.length_cons, List.length_drop]; omega
    have hst := ((((HR5.out.stored (p * 4) (.string (str x.key))).1.stored (p * 4 + 1) (.string (str x.val))).1.stored (p * 4 + 2) (.int .u32 x.chain)).1.stored (p * 4 + 3) (.int .u32 x.long)).1
    rw [flat_setC l p x HLP.out] at hst
    refine ⟨_, rfl, ?_, ?_⟩
    · rw [HL.out]
      show World.ownsRow _ _ _ _ _ _ _
      rw [hlen]
      exact hst
    · exact ((((last8 HS5.out).setCell HGB.out _).setCell HGB.out _).setCell HGB.out _).setCell HGB.out _
  | false =>
    have HL : Hid (L = l.take p ++ x :: l.drop p) := HPT.out
    clear HTH HPT
    go_enter Try.func61, Try.ntmps61
    go_wp2_with fail
    go_region_held3 (fun w' => w'.cell? ⟨w.heap.size, 0, none⟩ = some (.func (.func 97) #[] #[]) ∧ w'.cell? ⟨w.heap.size, 1, none⟩ = some (.func (.func 98) #[] #[]) ∧ w'.cell? ⟨w.heap.size, 2, none⟩ = some (.func (.func 99) #[] #[]) ∧ w'.cell? ⟨w.heap.size, 3, none⟩ = some (.func (.func 100) #[] #[]) ∧ w'.cell? ⟨w.heap.size + 1, 0, none⟩ = some (.string (str x.key)) ∧ w'.cell? ⟨w.heap.size + 1, 1, none⟩ = some (.string (str x.val)) ∧ w'.cell? ⟨w.heap.size + 1, 2, none⟩ = some (.int .u32 x.chain) ∧ w'.cell? ⟨w.heap.size + 1, 3, none⟩ = some (.int .u32 x.long) ∧ Below w.heap.size w w')
      ((first | assumption | exact step8 (Nat.le_refl _) ‹_› hb | exact hF.out))
      (first
      | (go_at_call 57; (refine (HFD.out _ (last8 (by assumption))).mono ?_); rintro e w2 ⟨rfl, hb⟩)
      | (go_at_call 99; refine (HK.out _).mono ?_; rintro e w1 ⟨rfl, hb⟩))
    rename_i hS
    have HS := Lib.hid hS
    clear hS
    have HLS := Lib.hid (last8 HS.out)
    go_wp2_with (first
      | (go_at_call 108; (refine (HIN.out w.heap.size w5.heap.size 1 (.slice a5 n5 c5) _ _ (HRI.out _) (HBI.out _) (heap_alloc_new w5 _) HNE.out).mono ?_); rintro e w6 ⟨v6, rfl, hr6, hb6⟩)
      | (go_at_call 95; (refine (HCL.out _ HLS.out).mono ?_); rintro e w5 ⟨v5, rfl, hr5, hb5⟩; have HS5 := Lib.hid (step8 (Nat.le_refl _) HS.out hb5); have HB5 := Lib.hid (last8 HS5.out); obtain ⟨a5, n5, c5, ha5, hc5, hn5⟩ := hr5.cap; have HR5 := Lib.hid (hr5.base HLS.out.size); have HNE : Hid ((Value.slice a5 n5 c5).ownBlock ≠ some w5.heap.size) := (fun h => Nat.lt_irrefl _ (hr5.lo _ h)); have HRI := Lib.hid (fun o => HR5.out.below ((Below.refl w5.heap.size w5).alloc (Nat.le_refl _) o)); have HBI := Lib.hid (fun (o : Obj) => Nat.le_trans HB5.out.size ((Below.refl w5.heap.size w5).alloc (Nat.le_refl _) o).size); obtain ⟨_, _, _, _, x0, x1, x2, x3, _⟩ := HS5.out; clear hr5 hb5))
    go_ret
    refine ⟨v6, rfl, ?_, ?_⟩
    · rw [HL.out]; exact hr6
    · exact HB5.out.trans (((Below.refl _ _).alloc HB5.out.size _).trans hb6)
end Go.Proofs.Ytpkoehnjladpoaa
