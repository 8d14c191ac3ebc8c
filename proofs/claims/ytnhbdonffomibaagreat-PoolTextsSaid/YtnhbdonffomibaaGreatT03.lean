/- Texts of one seat, merged. -/
import Derived.Test.YtnhbdonffomibaaGreatT02
import Derived.Shelf.Spec.SlicesInsert
import Derived.Shelf.RegionOpenPlain
import Derived.Maps.AppendAt
import Derived.Test.YtnhbdonffomibaaGreatT01
import Derived.Sort.EncStr
import Derived.Sort.OwnSorted
import Derived.Deep.LoopGhost
import Derived.OwnWalk
import Derived.Lib.Hide
import Derived.Below
set_option maxRecDepth 100000
set_option maxHeartbeats 4000000
set_option linter.unusedVariables false
/- The contract of slices.Insert of one cell, at a row of one's own. -/
namespace Go.Proofs.YtnhbdonffomibaaGreat
open Go.RowKit
open Sl (Cl Kd)
inductive InsOutT (B : Nat) (u : Value) (l : List (List UInt8)) (w : World) (e : Ending) (w' : World) : Prop
  | mk (v : Value) (he : e = .returned v) (hr : RowT w' B v l) (hb : Below B w w') (hk : ∀ k, u.ownBlock ≠ some k → k < w.heap.size → w'.heap[k]? = w.heap[k]?) (hf : v.ownBlock = u.ownBlock ∨ ∃ g, v.ownBlock = some g ∧ w.heap.size ≤ g)
theorem flatAtT (x : (List UInt8)) (vb : Nat) (T : TypeId) (w : World) (hvb : w.heap[vb]? = some (.cells (cellsT x).toArray T (0, 0))) : ∀ j u, (cellsT x)[j]? = some u → w.cell? ((⟨vb, 0, none⟩ : Addr).add j) = some u := by
  intro j u hj
  rw [add_plain', Nat.zero_add, cell_of_row w vb j _ T (0, 0) hvb]
  simpa using hj
theorem rowAtT (w : World) (g : Nat) (cur : Array Value) (l : List (List UInt8)) (hg : w.heap[g]? = some (.cells cur 9 (0, 0))) (htk : cur.toList.take (l.length * 1) = l.flatMap cellsT) (k : Nat) : ∀ j u, ((l.flatMap cellsT).drop (k * 1))[j]? = some u → w.cell? ((⟨g, k * 1, none⟩ : Addr).add j) = some u := by
  intro j u hj
  rw [add_plain', cell_of_row w g _ _ _ (0, 0) hg]
  rw [List.getElem?_drop, ← htk] at hj
  have hlt := (List.getElem?_eq_some_iff.1 hj).1
  rw [List.length_take] at hlt
  rw [List.getElem?_take_of_lt (by omega)] at hj
  simpa using hj
theorem flat_takeT (l : List (List UInt8)) (x : (List UInt8)) (i : Nat) : (l.flatMap cellsT).take (i * 1) ++ cellsT x ++ (l.flatMap cellsT).drop (i * 1) = (l.take i ++ x :: l.drop i).flatMap cellsT := by
  have h : ∀ (l : List (List UInt8)) (i : Nat), (l.flatMap cellsT).take (i * 1) = (l.take i).flatMap cellsT ∧ (l.flatMap cellsT).drop (i * 1) = (l.drop i).flatMap cellsT := by
    intro l
    induction l with
    | nil => intro i; simp
    | cons y t ih =>
      intro i
      cases i with
      | zero => simp
      | succ i =>
        obtain ⟨h1, h2⟩ := ih i
        have hl := cellsT_len y
        rw [List.flatMap_cons, List.take_succ_cons, List.drop_succ_cons, List.flatMap_cons, show (i + 1) * 1 = (cellsT y).length + i * 1 by rw [hl]; omega, List.take_append, List.drop_append]
        rw [List.take_of_length_le (by omega), List.drop_of_length_le (by omega), Nat.add_sub_cancel_left, h1, h2]
        exact ⟨rfl, rfl⟩
  obtain ⟨h1, h2⟩ := h l i
  rw [h1, h2, List.flatMap_append, List.flatMap_cons, List.append_assoc]
set_option maxHeartbeats 4000000 in
theorem insertT_shift (B g cap i vb vc : Nat) (cur : Array Value) (l : List (List UInt8)) (x : (List UInt8)) (T : TypeId) (w : World) (hi : i < l.length) (hroom : l.length + 1 ≤ cap) (hcap : cap ≤ maxLen) (hg : w.heap[g]? = some (.cells cur 9 (0, 0))) (hB : B ≤ g) (hsz : cur.size = cap * 1) (htk : cur.toList.take (l.length * 1) = l.flatMap cellsT) (hvb : w.heap[vb]? = some (.cells (cellsT x).toArray T (0, 0))) (hne : vb ≠ g) :
    Calls Tryz.prog 28 #[.slice (some ⟨g, 0, none⟩) l.length cap, .int .i64 i, .slice (some ⟨vb, 0, none⟩) 1 vc] w (InsOutT B (.slice (some ⟨g, 0, none⟩) l.length cap) (l.take i ++ x :: l.drop i) w) := by
  obtain ⟨i0, hi0, hz0, hz1, hz2⟩ := info_parts infoT
  have hs1 : (Tryz.prog.info? 9).map (·.size) = some 1 := by rw [hi0]; simp [hz1]
  have hflen : (l.flatMap cellsT).length = l.length * 1 := flat_len _ _ cellsT_len _
  have hfd : ((l.flatMap cellsT).drop (i * 1)).length = (l.length - i) * 1 := by rw [List.length_drop, hflen]; omega
  have hxl := cellsT_len x
  have hxs : (cellsT x).toArray.size = 1 := by simpa using hxl
  have hcl : cur.toList.length = cap * 1 := by simpa using hsz
  have hov : ∀ lb cb, (callFunc 43 #[.slice (some ⟨vb, 0, none⟩) 1 vc, .slice (some ⟨g, (i + 1) * 1, none⟩) lb cb]).run Tryz.prog w = .ok (.value (.bool false)) w := fun lb cb => by
    rw [run_callFunc_extern Tryz.func43 (by kernel_rfl) (by kernel_rfl) (by kernel_rfl) (e := Extern.SlicesOverlaps.overlaps #[22, 22] #[4]) (by kernel_rfl),
      Lib.run_overlaps_apart w 22 4 9 Tryz.underlying22 1 (fun w => by kernel_rfl) ⟨vb, 0, none⟩ ⟨g, (i + 1) * 1, none⟩ 1 vc lb cb hne T 9 1 (cap * 1) (by simp [World.shape?, hvb, hxs]) (by simp [World.shape?, hg, hsz]) (by omega) (by simp [World.frozen?, hvb]) (by simp [World.frozen?, hvb])]
    rfl
  obtain ⟨R1, hR1⟩ : ∃ R1, R1 = cur.toList.take ((i + 1) * 1) ++ (l.flatMap cellsT).drop (i * 1) ++ cur.toList.drop ((i + 1) * 1 + ((l.flatMap cellsT).drop (i * 1)).length) := ⟨_, rfl⟩
  obtain ⟨R2, hR2⟩ : ∃ R2, R2 = R1.take (i * 1) ++ cellsT x ++ R1.drop (i * 1 + (cellsT x).length) := ⟨_, rfl⟩
  have hR1l : R1.length = cap * 1 := by rw [hR1]; simp only [List.length_append, List.length_take, List.length_drop, hcl, hflen]; omega
  have hcp1 : ∀ ty dl dc sl sc, dl = l.length - i → sl = l.length + 1 - i → (Builtin.copy_ #[22, 22] ty #[.slice (some ⟨g, (i + 1) * 1, none⟩) dl dc, .slice (some ⟨g, i * 1, none⟩) sl sc]).run Tryz.prog w.drew = .ok (goInt (Nat.min sl dl)) (w.drew.setRow g R1.toArray) := fun ty dl dc sl sc h1 h2 => by
    subst h1; subst h2
    rw [hR1]
    exact run_copy_rowS w.drew _ _ ty 9 1 g ((i + 1) * 1) _ dc ⟨g, i * 1, none⟩ _ sc cur 9 ((l.flatMap cellsT).drop (i * 1)) Tryz.underlying22 hs1 hg (by rw [hfd]; simp only [Nat.min_def]; split <;> omega) (rowAtT w.drew g cur l hg htk i) (by rw [hfd, hsz]; omega) (fun v hv => flat_oneT l v (List.mem_of_mem_drop hv))
  have hcp2 : ∀ (W : World), W.heap = (w.drew.setRow g R1.toArray).heap → ∀ ty dl dc, 1 ≤ dl → (Builtin.copy_ #[22, 22] ty #[.slice (some ⟨g, i * 1, none⟩) dl dc, .slice (some ⟨vb, 0, none⟩) 1 vc]).run Tryz.prog W = .ok (goInt (Nat.min 1 dl)) (W.setRow g R2.toArray) := fun W hW ty dl dc h1 => by
    have hgW : W.heap[g]? = some (.cells R1.toArray 9 (0, 0)) := by rw [hW]; exact setRow_heap w.drew g cur _ _ _ hg
    have hvW : W.heap[vb]? = some (.cells (cellsT x).toArray T (0, 0)) := by rw [hW, setRow_other w.drew g vb _ hne]; exact hvb
    have := run_copy_rowS (P := Tryz.prog) W 22 22 ty 9 1 g (i * 1) dl dc ⟨vb, 0, none⟩ 1 vc R1.toArray 9 (cellsT x) Tryz.underlying22 hs1 hgW (by rw [hxl]; simp only [Nat.min_def]; split <;> omega) (flatAtT x vb T W hvW) (by rw [hxl, List.size_toArray, hR1l]; omega) (fun v hv => cellsT_one x v hv)
    rw [this, hR2]
  have HR : Hid (R2.length = cap * 1 ∧ R2.take ((l.length + 1) * 1) = (l.take i ++ x :: l.drop i).flatMap cellsT) := by
    have e1 : (i + 1) * 1 = i * 1 + 1 := by omega
    rw [e1] at hR1
    refine ⟨?_, ?_⟩
    · rw [hR2, hR1, seg_ins_len (i * 1) (l.length * 1) 1 cur.toList _ _ (by omega) htk (by rw [hcl]; omega) hxl, hcl]
    · rw [show (l.length + 1) * 1 = l.length * 1 + 1 by omega, hR2, hR1, seg_ins (i * 1) (l.length * 1) 1 cur.toList _ _ (by omega) htk (by rw [hcl]; omega) hxl, flat_takeT]
  have HG := Lib.hid hg
  have HB := Lib.hid hB
  have hin : ¬ ((i : Int) = (l.length : Int)) := by omega
  have hb2 : ¬ (cap = i + 1) := by omega
  have hb4 : ¬ (cap = i) := by omega
  have hb5 : i ≤ l.length := by omega
  have hw1 : IntKind.i64.wrap ((i : Int) + 1) = (i : Int) + 1 := IntWalk.i64_in _ (by unfold maxLen at hcap; omega)
  have hw2 : IntKind.i64.wrap ((l.length : Int) + 1) = (l.length : Int) + 1 := IntWalk.i64_in _ (by unfold maxLen at hcap; omega)
  have HCAP := Lib.hid hcap
  unfold maxLen at hcap
  have hb1 : (0 : Int) ≤ (i : Int) + 1 := by omega
  have htn : ((i : Int) + 1).toNat = i + 1 := by omega
  have htn2 : ((l.length : Int) + 1).toNat = l.length + 1 := by omega
  have HROOM := Lib.hid hroom
  have hb3 : (i : Int) ≤ (l.length : Int) + 1 := by omega
  have mixed : Tryz.prog.follows Departure.mixedOrders = true := by kernel_rfl
  clear hR1 hR2 hR1l hflen hfd hxs hcl hsz htk hvb hg hs1 hi0 hz0 hz1 hz2 hxl
  go_enter Tryz.func28, Tryz.ntmps28
  simp only [Nat.mul_one] at hov hcp1 hcp2
  go_wp2_with (simp only [hov])
  go_region_law_o (refine Go.Proofs.step_copy_runI rfl _ _ 22 22 rfl _ _ (by simp [Act.eval, Act.put]) (by simp [Act.eval, Act.put]) (hcp1 _ _ _ _ _ (by omega) (by omega)) ?_)
  go_wp2_with (refine Go.Proofs.wpList_copy_runI (o := ⟨some 82, _, _, _, _, _⟩) _ rfl _ _ 22 22 rfl _ _ rfl rfl (hcp2 _ rfl _ _ _ (by omega)) ?_)
  go_ret
  refine ⟨_, rfl, ?_, ?_, fun k hk _ => ?_, .inl rfl⟩
  · have hgW : (w.drew.setRow g R1.toArray).heap[g]? = some (.cells R1.toArray 9 (0, 0)) := setRow_heap w.drew g cur _ _ _ HG.out
    have hlen : (l.take i ++ x :: l.drop i).length = l.length + 1 := by simp only [List.length_append, List.length_take, List.length_cons, List.length_drop]; omega
    show World.ownsRow _ _ _ _ _ _ _
    rw [hlen]
    exact owns_setRow hgW HB.out HROOM.out HCAP.out HR.out.1 (by rw [flat_len _ _ cellsT_len _, hlen]) HR.out.2
  · exact below_setRow (below_setRow (Below.refl _ _).drew HB.out _) HB.out _
  · have hkg : k ≠ g := fun h => hk (by rw [h]; rfl)
    exact (setRow_other _ g k _ hkg).trans (setRow_other _ g k _ hkg)
end Go.Proofs.YtnhbdonffomibaaGreat
/- The contract of slices.Insert of one cell, at a row of one's own: at its end, and where there is no room. -/
namespace Go.Proofs.YtnhbdonffomibaaGreat
open Go.RowKit
open Sl (Cl Kd)
theorem insertT_end (B vb vc : Nat) (v : Value) (l : List (List UInt8)) (x : (List UInt8)) (T : TypeId) (w : World) (hv : RowT w B v l) (hB : B ≤ w.heap.size) (hl : l.length ≤ 100000) (hvb : w.heap[vb]? = some (.cells (cellsT x).toArray T (0, 0))) :
    Calls Tryz.prog 28 #[v, .int .i64 l.length, .slice (some ⟨vb, 0, none⟩) 1 vc] w (InsOutT B v (l ++ [x]) w) := by
  obtain ⟨i0, hi0, hz0, hz1, hz2⟩ := info_parts infoT
  have HOWN := Lib.hid hv
  have HLO := Lib.hid (fun k hk => (World.ownsRow.lt hv k hk).1)
  have HF := Lib.hid (flatAtT x vb T w hvb)
  have HXL := Lib.hid (show (cellsT x).length = 1 * 1 from cellsT_len x)
  have HX1 := Lib.hid (fun u hu => cellsT_one x u hu)
  have HFIN : Hid (∀ v' w1, w1.ownsRow B 9 1 v' (l.length + 1) (l.flatMap cellsT ++ cellsT x) → RowT w1 B v' (l ++ [x])) := fun v' w1 h => by
    show World.ownsRow _ _ _ _ _ _ _
    rw [List.length_append, List.flatMap_append]
    simpa using h
  obtain ⟨_, h1⟩ := hv
  rcases h1 with ⟨rfl, h0⟩ | ⟨g, cap, cur, rfl, hg, _, hn, hm, _, _⟩
  · obtain rfl : l = [] := List.length_eq_zero_iff.1 h0
    clear hvb
    go_enter Tryz.func28, Tryz.ntmps28
    go_wp2_with (at_builtin; refine wpList_append_own_at _ rfl _ _ 22 rfl B 9 i0 _ 1 16 Tryz.underlying22 hi0 hz0 hz1 hz2 rfl (by decide) _ 0 _ rfl HOWN.out ⟨vb, 0, none⟩ 1 vc (cellsT x) rfl HXL.out HF.out HX1.out (by unfold maxLen; omega) (by omega) hB ?_)
    intro v' w1 hown hgrow _ hat
    go_wp2
    go_ret
    exact ⟨_, rfl, HFIN.out _ _ hown, (Below.refl _ _).grown hgrow hB (fun k hk => by simp [Value.ownBlock] at hk), fun k hk hlt => hgrow.block k hlt (fun e => hk e.symm), hat.imp id (fun h => ⟨_, h, Nat.le_refl _⟩)⟩
  · unfold maxLen at hm
    clear hvb
    by_cases hcn : cap = l.length
    all_goals
      try subst hcn
      go_enter Tryz.func28, Tryz.ntmps28
      go_wp2_with (at_builtin; refine wpList_append_own_at _ rfl _ _ 22 rfl B 9 i0 _ 1 16 Tryz.underlying22 hi0 hz0 hz1 hz2 rfl (by decide) _ l.length _ rfl HOWN.out ⟨vb, 0, none⟩ 1 vc (cellsT x) rfl HXL.out HF.out HX1.out (by unfold maxLen; omega) (by omega) hB ?_)
      intro v' w1 hown hgrow _ hat
      go_wp2
      go_ret
      exact ⟨_, rfl, HFIN.out _ _ hown, (Below.refl _ _).grown hgrow hB HLO.out, fun k hk hlt => hgrow.block k hlt (fun e => hk e.symm), hat.imp id (fun h => ⟨_, h, Nat.le_refl _⟩)⟩
theorem zeros_lenT (z : Array Value) (n : Nat) : (Builtin.zeroCells z n).size = n * z.size := by simp [Builtin.zeroCells]
set_option maxHeartbeats 8000000 in
theorem insertT_grow (B g cap i vb vc : Nat) (cur : Array Value) (l : List (List UInt8)) (x : (List UInt8)) (T : TypeId) (w : World) (hi : i < l.length) (hnc : l.length ≤ cap) (hroom : ¬ l.length + 1 ≤ cap) (hl : l.length ≤ 100000) (hB : B ≤ w.heap.size) (hg : w.heap[g]? = some (.cells cur 9 (0, 0))) (htk : cur.toList.take (l.length * 1) = l.flatMap cellsT) (hvb : w.heap[vb]? = some (.cells (cellsT x).toArray T (0, 0))) :
    Calls Tryz.prog 28 #[.slice (some ⟨g, 0, none⟩) l.length cap, .int .i64 i, .slice (some ⟨vb, 0, none⟩) 1 vc] w (InsOutT B (.slice (some ⟨g, 0, none⟩) l.length cap) (l.take i ++ x :: l.drop i) w) := by
  obtain ⟨i0, hi0, hz0, hz1, hz2⟩ := info_parts infoT
  obtain rfl : cap = l.length := by omega
  obtain ⟨z, hzz, hzs⟩ : ∃ z, i0.zero = some z ∧ z.cells.size = 1 := ⟨_, hz0, rfl⟩
  have hs1 : (Tryz.prog.info? 9).map (·.size) = some 1 := by rw [hi0]; simp [hz1]
  have hflen : (l.flatMap cellsT).length = l.length * 1 := flat_len _ _ cellsT_len _
  have hxl := cellsT_len x
  have hglt : g < w.heap.size := (Array.getElem?_eq_some_iff.1 hg).1
  have hvlt : vb < w.heap.size := (Array.getElem?_eq_some_iff.1 hvb).1
  have hrow : ∀ k, ∀ j u, ((l.flatMap cellsT).drop (k * 1))[j]? = some u → w.cell? ((⟨g, k * 1, none⟩ : Addr).add j) = some u := rowAtT w g cur l hg htk
  have hold : (Builtin.firstCells i0.size i (.slice (some ⟨g, 0, none⟩) i l.length)).run Tryz.prog w.drew = .ok ((l.flatMap cellsT).take (i * 1)).toArray w.drew := by
    rw [hz1]
    exact run_firstCells_some w.drew 1 i ⟨g, 0, none⟩ i l.length ((l.flatMap cellsT).take (i * 1)) (by rw [List.length_take, hflen]; omega) (fun j u hj => by
      have hj2 := (List.getElem?_eq_some_iff.1 hj).1
      rw [List.length_take] at hj2
      rw [List.getElem?_take_of_lt (by omega)] at hj
      exact hrow 0 j u (by rw [Nat.zero_mul, List.drop_zero]; exact hj))
  obtain ⟨G, hG⟩ : ∃ G, G = grownCap w (l.length + 1) l.length 9 := ⟨_, rfl⟩
  have hrz : ∀ ty, (Builtin.append_ #[22, 3] ty #[.slice (some ⟨g, 0, none⟩) i l.length, .int .i64 ((l.length : Int) + 1 - (i : Int))]).run Tryz.prog w =
      .ok (.slice (some ⟨w.heap.size, 0, none⟩) (l.length + 1) G) (w.drew.alloc (.cells (((l.flatMap cellsT).take (i * 1)).toArray ++ Builtin.zeroCells z.cells (l.length + 1 - i) ++ Builtin.zeroCells z.cells (G - (l.length + 1))) 9)) := fun ty => by
    have hik : i + (l.length + 1 - i) = l.length + 1 := by omega
    have h := Lib.run_append_grow_zeros w 22 3 ty 9 i0 _ .i64 .i64 Tryz.underlying22 Tryz.underlying3 hi0 hzz (some ⟨g, 0, none⟩) i l.length _ hold (l.length + 1 - i) (by omega) (by rw [hz1]; decide) (by omega) (by omega) (by rw [hz2]; omega) (by rw [hz2, hik]; exact growslice_fits (by omega) (by omega))
    rw [hik, ← hG] at h
    rw [show (l.length : Int) + 1 - (i : Int) = ((l.length + 1 - i : Nat) : Int) by omega]
    exact h
  obtain ⟨R0, hR0⟩ : ∃ R0 : Array Value, R0 = ((l.flatMap cellsT).take (i * 1)).toArray ++ Builtin.zeroCells z.cells (l.length + 1 - i) ++ Builtin.zeroCells z.cells (G - (l.length + 1)) := ⟨_, rfl⟩
  rw [← hR0] at hrz
  have hGn : l.length + 1 ≤ G := by rw [hG]; exact grownCap_ge w _ _ _
  have hGm : G ≤ maxLen := by rw [hG]; exact grownCap_le_maxLen w (l.length + 1) l.length 9 (by unfold maxLen; omega)
  have hR0l : R0.toList.length = G * 1 := by
    rw [hR0]
    simp only [Array.toList_append, List.length_append, Array.length_toList, zeros_lenT, hzs, List.length_take, hflen]
    omega
  have hR0t : R0.toList.take (i * 1) = (l.flatMap cellsT).take (i * 1) := by
    rw [hR0]
    simp only [Array.toList_append, List.append_assoc]
    rw [List.take_append_of_le_length (by rw [List.length_take, hflen]; omega), List.take_of_length_le (by rw [List.length_take]; omega)]
  obtain ⟨R1, hR1⟩ : ∃ R1, R1 = R0.toList.take (i * 1) ++ cellsT x ++ R0.toList.drop (i * 1 + (cellsT x).length) := ⟨_, rfl⟩
  obtain ⟨R2, hR2⟩ : ∃ R2, R2 = R1.take ((i + 1) * 1) ++ (l.flatMap cellsT).drop (i * 1) ++ R1.drop ((i + 1) * 1 + ((l.flatMap cellsT).drop (i * 1)).length) := ⟨_, rfl⟩
  have hR1l : R1.length = G * 1 := by rw [hR1]; simp only [List.length_append, List.length_take, List.length_drop, hR0l, hxl]; omega
  have hh0 : ∀ W : World, W.heap = (w.alloc (.cells R0 9)).heap → W.heap[w.heap.size]? = some (.cells R0 9 (0, 0)) := fun W hW => by rw [hW]; exact heap_alloc_new w _
  have hvW : ∀ W : World, W.heap = (w.alloc (.cells R0 9)).heap → W.heap[vb]? = some (.cells (cellsT x).toArray T (0, 0)) := fun W hW => by rw [hW, Below.heap_alloc w _ vb hvlt]; exact hvb
  have hcpA : ∀ (W : World), W.heap = (w.alloc (.cells R0 9)).heap → ∀ ty dl dc, 1 ≤ dl → (Builtin.copy_ #[22, 22] ty #[.slice (some ⟨w.heap.size, i * 1, none⟩) dl dc, .slice (some ⟨vb, 0, none⟩) 1 vc]).run Tryz.prog W = .ok (goInt (Nat.min 1 dl)) (W.setRow w.heap.size R1.toArray) := fun W hW ty dl dc h1 => by
    have := run_copy_rowS (P := Tryz.prog) W 22 22 ty 9 1 w.heap.size (i * 1) dl dc ⟨vb, 0, none⟩ 1 vc R0 9 (cellsT x) Tryz.underlying22 hs1 (hh0 W hW) (by rw [hxl]; simp only [Nat.min_def]; split <;> omega) (flatAtT x vb T W (hvW W hW)) (by rw [hxl, ← Array.length_toList, hR0l]; omega) (fun v hv => cellsT_one x v hv)
    rw [this, hR1]
  have hcpB : ∀ (W : World), W.heap = ((w.alloc (.cells R0 9)).setRow w.heap.size R1.toArray).heap → ∀ ty dl dc sl sc, dl = l.length - i → sl = l.length - i → (Builtin.copy_ #[22, 22] ty #[.slice (some ⟨w.heap.size, (i + 1) * 1, none⟩) dl dc, .slice (some ⟨g, i * 1, none⟩) sl sc]).run Tryz.prog W = .ok (goInt (Nat.min sl dl)) (W.setRow w.heap.size R2.toArray) := fun W hW ty dl dc sl sc h1 h2 => by
    subst h1; subst h2
    have hgW : W.heap[w.heap.size]? = some (.cells R1.toArray 9 (0, 0)) := by rw [hW]; exact setRow_heap _ _ R0 _ _ _ (heap_alloc_new w _)
    have hgg : W.heap[g]? = some (.cells cur 9 (0, 0)) := by rw [hW, setRow_other _ _ g _ (by omega), Below.heap_alloc w _ g hglt]; exact hg
    have hfd : ((l.flatMap cellsT).drop (i * 1)).length = (l.length - i) * 1 := by rw [List.length_drop, hflen]; omega
    have := run_copy_rowS (P := Tryz.prog) W 22 22 ty 9 1 w.heap.size ((i + 1) * 1) (l.length - i) dc ⟨g, i * 1, none⟩ (l.length - i) sc R1.toArray 9 ((l.flatMap cellsT).drop (i * 1)) Tryz.underlying22 hs1 hgW (by rw [hfd]; simp only [Nat.min_def]; split <;> omega) (rowAtT W g cur l hgg htk i) (by rw [hfd, List.size_toArray, hR1l]; omega) (fun v hv => flat_oneT l v (List.mem_of_mem_drop hv))
    rw [this, hR2]
  have HR : Hid (R2.length = G * 1 ∧ R2.take ((l.length + 1) * 1) = (l.take i ++ x :: l.drop i).flatMap cellsT) := by
    have e1 : (i + 1) * 1 = i * 1 + 1 := by omega
    rw [e1] at hR2
    refine ⟨?_, ?_⟩
    · rw [hR2, hR1, seg_ins2_len (i * 1) (l.length * 1) 1 R0.toList _ _ (by omega) hflen (by rw [hR0l]; omega) hxl, hR0l]
    · rw [show (l.length + 1) * 1 = l.length * 1 + 1 by omega, hR2, hR1, seg_ins2 (i * 1) (l.length * 1) 1 R0.toList _ _ (by omega) hflen hR0t (by rw [hR0l]; omega) hxl, flat_takeT]
  have HB := Lib.hid hB
  have HGN := Lib.hid hGn
  have HGM := Lib.hid hGm
  unfold maxLen at hGm
  have hin : ¬ ((i : Int) = (l.length : Int)) := by omega
  have hb4 : ¬ (l.length = i) := by omega
  have hb5 : i ≤ l.length := by omega
  have hb6 : ¬ (G = i) := by omega
  have hb7 : ¬ (G = i + 1) := by omega
  have hw1 : IntKind.i64.wrap ((i : Int) + 1) = (i : Int) + 1 := IntWalk.i64_in _ (by omega)
  have hw2 : IntKind.i64.wrap ((l.length : Int) + 1) = (l.length : Int) + 1 := IntWalk.i64_in _ (by omega)
  have hw3 : IntKind.i64.wrap ((l.length : Int) + 1 - (i : Int)) = (l.length : Int) + 1 - (i : Int) := IntWalk.i64_in _ (by omega)
  have hb1 : (0 : Int) ≤ (i : Int) + 1 := by omega
  have htn : ((i : Int) + 1).toNat = i + 1 := by omega
  have hb3 : (i : Int) ≤ (l.length : Int) + 1 := by omega
  have mixed : Tryz.prog.follows Departure.mixedOrders = true := by kernel_rfl
  clear hR0 hR1 hR2 hR0l hR0t hR1l hh0 hvW hflen htk hvb hg hs1 hi0 hz0 hz1 hz2 hxl hzz hzs hrow hold hG hglt hvlt hroom hnc
  simp only [Nat.mul_one] at hcpA hcpB
  go_enter Tryz.func28, Tryz.ntmps28
  go_wp2_with (first
    | (at_builtin; refine Lib.wpList_append_run _ rfl _ _ _ _ rfl _ _ rfl rfl _ _ (hrz _) ?_)
    | (refine Go.Proofs.wpList_copy_runI (o := ⟨some 45, _, _, _, _, _⟩) _ rfl _ _ 22 22 rfl _ _ rfl rfl (hcpA (w.alloc (.cells R0 9)).drew rfl _ _ _ (by omega)) ?_))
  go_region_law_o (refine Go.Proofs.step_copy_runI rfl _ _ 22 22 rfl (.slice (some ⟨w.heap.size, i + 1, none⟩) (l.length - i) (G - (i + 1))) (.slice (some ⟨g, i, none⟩) (l.length - i) (l.length - i)) (by simp [Act.eval, Act.put]) (by simp [Act.eval, Act.put]) (hcpB (((w.alloc (.cells R0 9)).drew.setRow w.heap.size R1.toArray).drew) rfl 3 _ _ _ _ rfl rfl) ?_)
  go_wp2
  go_ret
  refine ⟨_, rfl, ?_, ?_, fun k _ hlt => ?_, .inr ⟨_, rfl, Nat.le_refl _⟩⟩
  · have hgW : ((w.alloc (.cells R0 9)).drew.setRow w.heap.size R1.toArray).drew.heap[w.heap.size]? = some (.cells R1.toArray 9 (0, 0)) := setRow_heap _ _ R0 _ _ _ (heap_alloc_new w _)
    have hlen : (l.take i ++ x :: l.drop i).length = l.length + 1 := by simp only [List.length_append, List.length_take, List.length_cons, List.length_drop]; omega
    show World.ownsRow _ _ _ _ _ _ _
    rw [hlen]
    exact owns_setRow hgW HB.out HGN.out HGM.out HR.out.1 (by rw [flat_len _ _ cellsT_len _, hlen]) HR.out.2
  · exact below_setRow (below_setRow ((Below.refl _ _).alloc HB.out _).drew HB.out _).drew HB.out _
  · have hkg : k ≠ w.heap.size := by omega
    exact ((setRow_other _ w.heap.size k _ hkg).trans (setRow_other _ w.heap.size k _ hkg)).trans (Below.heap_alloc w _ k hlt)
end Go.Proofs.YtnhbdonffomibaaGreat
/- Rows that rise: what stands below and above a thing, with one more, with one less; two of the same things are the same. -/
namespace Go.Proofs.YtnhbdonffomibaaGreat.Tx
/-- An order. -/
structure Ord {α : Type} (lt : α → α → Bool) : Prop where
  irr : ∀ x, lt x x = false
  tr : ∀ {x y z}, lt x y = true → lt y z = true → lt x z = true
  tri : ∀ {x y}, lt x y = false → lt y x = false → x = y
variable {α : Type} {lt : α → α → Bool}
abbrev Rise (lt : α → α → Bool) (l : List α) : Prop := l.Pairwise (fun a b => lt a b = true)
theorem Ord.asy (O : Ord lt) {x y : α} (h : lt x y = true) : lt y x = false := by
  cases h2 : lt y x with
  | false => rfl
  | true => have := O.tr h h2; rw [O.irr] at this; cases this
theorem Ord.ne (O : Ord lt) {x y : α} (h : lt x y = true) : x ≠ y := by
  rintro rfl; rw [O.irr] at h; cases h
/-- Rising rows of the same things are the same. -/
theorem Rise.uniq (O : Ord lt) : ∀ {l l' : List α}, Rise lt l → Rise lt l' → (∀ x, x ∈ l ↔ x ∈ l') → l = l'
  | [], [], _, _, _ => rfl
  | [], y :: t, _, _, h => absurd ((h y).2 (List.mem_cons_self ..)) (by simp)
  | x :: s, [], _, _, h => absurd ((h x).1 (List.mem_cons_self ..)) (by simp)
  | x :: s, y :: t, h1, h2, h => by
    have a1 := (List.pairwise_cons.1 h1)
    have a2 := (List.pairwise_cons.1 h2)
    have hxy : x = y := by
      rcases List.mem_cons.1 ((h x).1 (List.mem_cons_self ..)) with e | e
      · exact e
      · rcases List.mem_cons.1 ((h y).2 (List.mem_cons_self ..)) with e' | e'
        · exact e'.symm
        · have := O.tr (a2.1 x e) (a1.1 y e'); rw [O.irr] at this; cases this
    subst hxy
    congr 1
    refine Rise.uniq O a1.2 a2.2 (fun z => ⟨fun hz => ?_, fun hz => ?_⟩)
    · rcases List.mem_cons.1 ((h z).1 (List.mem_cons_of_mem _ hz)) with e | e
      · subst e; have := a1.1 z hz; rw [O.irr] at this; cases this
      · exact e
    · rcases List.mem_cons.1 ((h z).2 (List.mem_cons_of_mem _ hz)) with e | e
      · subst e; have := a2.1 z hz; rw [O.irr] at this; cases this
      · exact e
/-- What stands above a thing. -/
def above (lt : α → α → Bool) (l : List α) (x : α) : List α := l.filter (fun y => lt x y)
/-- Where a thing stands, or would stand. -/
structure At (lt : α → α → Bool) (l : List α) (x : α) (p : Nat) : Prop where
  le : p ≤ l.length
  low : ∀ m y, m < p → l[m]? = some y → lt y x = true
  high : ∀ m y, p ≤ m → l[m]? = some y → lt y x = false
theorem At.low' {l : List α} {x : α} {p : Nat} (h : At lt l x p) : ∀ y ∈ l.take p, lt y x = true := fun y hy => by
  obtain ⟨m, hm⟩ := List.mem_iff_getElem?.1 hy
  have hlt := (List.getElem?_eq_some_iff.1 hm).1
  rw [List.length_take] at hlt
  exact h.low m y (by omega) (by rw [List.getElem?_take_of_lt (by omega)] at hm; exact hm)
theorem At.high' {l : List α} {x : α} {p : Nat} (h : At lt l x p) : ∀ y ∈ l.drop p, lt y x = false := fun y hy => by
  obtain ⟨m, hm⟩ := List.mem_iff_getElem?.1 hy
  rw [List.getElem?_drop] at hm
  exact h.high (p + m) y (by omega) hm
/-- It stands there, if it is there. -/
theorem At.mem (O : Ord lt) {l : List α} {x : α} {p : Nat} (h : At lt l x p) (hr : Rise lt l) : x ∈ l ↔ l[p]? = some x := by
  refine ⟨fun hx => ?_, fun hx => List.mem_of_getElem? hx⟩
  obtain ⟨m, hm⟩ := List.mem_iff_getElem?.1 hx
  have h1 : p ≤ m := by
    apply Decidable.byContradiction; intro hn
    have := h.low m x (by omega) hm; rw [O.irr] at this; cases this
  rcases Nat.lt_or_ge p m with h2 | h2
  · have hl := (List.getElem?_eq_some_iff.1 hm).1
    have hp : l[p]? = some (l[p]'(by omega)) := List.getElem?_eq_getElem (by omega)
    have h3 := h.high p _ (Nat.le_refl _) hp
    have h4 : lt (l[p]'(by omega)) (l[m]'hl) = true := List.pairwise_iff_getElem.1 hr p m (by omega) hl h2
    rw [(List.getElem?_eq_some_iff.1 hm).2, h3] at h4; cases h4
  · obtain rfl : p = m := by omega
    exact hm
theorem At.drop_above (O : Ord lt) {l : List α} {x : α} {p : Nat} (h : At lt l x p) (hr : Rise lt l) (hx : l[p]? ≠ some x) : l.drop p = above lt l x := by
  have e : l = l.take p ++ l.drop p := (List.take_append_drop p l).symm
  have h1 : above lt (l.take p) x = [] := List.filter_eq_nil_iff.2 (fun y hy => by rw [O.asy (h.low' y hy)]; simp)
  have h2 : above lt (l.drop p) x = l.drop p := List.filter_eq_self.2 (fun y hy => by
    cases hxy : lt x y with
    | true => rfl
    | false =>
      have := O.tri hxy (h.high' y hy)
      subst this
      exact absurd ((h.mem O hr).1 (List.mem_of_mem_drop hy)) hx)
  calc l.drop p = above lt (l.take p) x ++ above lt (l.drop p) x := by rw [h1, h2]; rfl
    _ = above lt (l.take p ++ l.drop p) x := by unfold above; rw [List.filter_append]
    _ = above lt l x := by rw [← e]
theorem At.drop_above1 (O : Ord lt) {l : List α} {x : α} {p : Nat} (h : At lt l x p) (hr : Rise lt l) (hx : l[p]? = some x) : l.drop (p + 1) = above lt l x := by
  have hl := (List.getElem?_eq_some_iff.1 hx).1
  have e1 : l.drop p = x :: l.drop (p + 1) := by rw [List.drop_eq_getElem_cons hl, (List.getElem?_eq_some_iff.1 hx).2]
  have e : l = l.take p ++ x :: l.drop (p + 1) := by rw [← e1]; exact (List.take_append_drop p l).symm
  have h1 : above lt (l.take p) x = [] := List.filter_eq_nil_iff.2 (fun y hy => by rw [O.asy (h.low' y hy)]; simp)
  have hr2 : Rise lt (x :: l.drop (p + 1)) := by rw [← e1]; exact hr.sublist (List.drop_sublist _ _)
  have h2 : above lt (x :: l.drop (p + 1)) x = l.drop (p + 1) := by
    unfold above
    rw [List.filter_cons, if_neg (by rw [O.irr]; simp)]
    exact List.filter_eq_self.2 (fun y hy => (List.pairwise_cons.1 hr2).1 y hy)
  calc l.drop (p + 1) = above lt (l.take p) x ++ above lt (x :: l.drop (p + 1)) x := by rw [h1, h2]; rfl
    _ = above lt (l.take p ++ x :: l.drop (p + 1)) x := by unfold above; rw [List.filter_append]
    _ = above lt l x := by rw [← e]
/-- Behind the first one above a thing, those above that. -/
theorem above_tail (O : Ord lt) {l : List α} {x y : α} {t : List α} (hr : Rise lt l) (h : above lt l x = y :: t) : above lt l y = t := by
  have hy : lt x y = true := by
    have := List.mem_cons_self (a := y) (l := t)
    rw [← h] at this
    exact (List.mem_filter.1 this).2
  have hr2 : Rise lt (y :: t) := by rw [← h]; exact hr.sublist List.filter_sublist
  have h1 : above lt l y = above lt (above lt l x) y := by
    unfold above
    rw [List.filter_filter]
    refine List.filter_congr (fun z _ => ?_)
    cases hz : lt y z with
    | false => simp
    | true => simp [O.tr hy hz]
  rw [h1, h]
  unfold above
  rw [List.filter_cons, if_neg (by rw [O.irr]; simp)]
  exact List.filter_eq_self.2 (fun z hz => (List.pairwise_cons.1 hr2).1 z hz)
/-- With one more. -/
def ins (l : List α) (p : Nat) (x : α) : List α := l.take p ++ x :: l.drop p
theorem ins_mem {l : List α} {p : Nat} {x y : α} : y ∈ ins l p x ↔ y = x ∨ y ∈ l := by
  unfold ins
  constructor
  · intro h
    rcases List.mem_append.1 h with h | h
    · exact .inr (List.mem_of_mem_take h)
    · rcases List.mem_cons.1 h with h | h
      · exact .inl h
      · exact .inr (List.mem_of_mem_drop h)
  · rintro (rfl | h)
    · simp
    · rw [← List.take_append_drop p l] at h
      rcases List.mem_append.1 h with h | h
      · exact List.mem_append.2 (.inl h)
      · exact List.mem_append.2 (.inr (List.mem_cons_of_mem _ h))
theorem At.ins_rise (O : Ord lt) {l : List α} {x : α} {p : Nat} (h : At lt l x p) (hr : Rise lt l) (hx : l[p]? ≠ some x) : Rise lt (ins l p x) := by
  have e := (List.take_append_drop p l)
  have hr' : Rise lt (l.take p ++ l.drop p) := by rw [e]; exact hr
  obtain ⟨r1, r2, r3⟩ := List.pairwise_append.1 hr'
  have ha : ∀ y ∈ l.drop p, lt x y = true := fun y hy => by
    rw [h.drop_above O hr hx] at hy
    exact (List.mem_filter.1 hy).2
  refine List.pairwise_append.2 ⟨r1, List.pairwise_cons.2 ⟨ha, r2⟩, fun a hA b hB => ?_⟩
  rcases List.mem_cons.1 hB with rfl | hB
  · exact h.low' a hA
  · exact r3 a hA b hB
/-- With one less. -/
def del (l : List α) (p : Nat) : List α := l.take p ++ l.drop (p + 1)
theorem del_rise {l : List α} (p : Nat) (hr : Rise lt l) : Rise lt (del l p) := by
  have : List.Sublist (del l p) l := by
    conv => rhs; rw [← List.take_append_drop p l]
    exact List.Sublist.append (List.Sublist.refl _) (by rw [← List.drop_drop]; exact List.drop_sublist _ _)
  exact hr.sublist this
theorem del_mem (O : Ord lt) {l : List α} {p : Nat} {x y : α} (hr : Rise lt l) (hx : l[p]? = some x) : y ∈ del l p ↔ y ≠ x ∧ y ∈ l := by
  have hl := (List.getElem?_eq_some_iff.1 hx).1
  have e1 : l.drop p = x :: l.drop (p + 1) := by rw [List.drop_eq_getElem_cons hl, (List.getElem?_eq_some_iff.1 hx).2]
  have e : l.take p ++ x :: l.drop (p + 1) = l := by rw [← e1]; exact List.take_append_drop p l
  have hr2 : Rise lt (l.take p ++ x :: l.drop (p + 1)) := by rw [e]; exact hr
  obtain ⟨_, r2, r3⟩ := List.pairwise_append.1 hr2
  have r4 := (List.pairwise_cons.1 r2).1
  constructor
  · intro h
    rcases List.mem_append.1 h with h | h
    · exact ⟨O.ne (r3 y h x (List.mem_cons_self ..)), List.mem_of_mem_take h⟩
    · exact ⟨fun e => O.ne (r4 y h) e.symm, List.mem_of_mem_drop h⟩
  · rintro ⟨hne, h⟩
    rw [← e] at h
    rcases List.mem_append.1 h with h | h
    · exact List.mem_append.2 (.inl h)
    · rcases List.mem_cons.1 h with h | h
      · exact absurd h hne
      · exact List.mem_append.2 (.inr h)
end Go.Proofs.YtnhbdonffomibaaGreat.Tx
/- Rows of one-cell things of one's own; what the library's writing in place leaves of them. -/
namespace Go.Proofs.YtnhbdonffomibaaGreat
open Go.RowKit Go.Sort
/-- A slice that holds a row. -/
def SlP {α : Type} (enc : α → Value) (w : World) (v : Value) (l : List α) : Prop :=
  ∃ (a : Option Addr) (b o c : Nat), v = .slice a l.length c ∧ (l = [] ∨ a = some ⟨b, o, none⟩) ∧ ∀ (j : Nat) x, l[j]? = some x → w.cell? ⟨b, o + j, none⟩ = some (enc x)
theorem SlP.below {α : Type} {enc : α → Value} {B : Nat} {w w' : World} {v : Value} {l : List α} (h : SlP enc w v l) (hs : B = w.heap.size) (hb : Below B w w') : SlP enc w' v l := by
  subst hs
  obtain ⟨a, b, o, c, hv, ha, hx⟩ := h
  refine ⟨a, b, o, c, hv, ha, fun j x hj => ?_⟩
  have h0 := hx j x hj
  exact (hb.cell (p := ⟨b, o + j, none⟩) (World.block_lt_of_cell? _ _ h0)).trans h0
theorem SlP.slice {α : Type} {enc : α → Value} {w : World} {v : Value} {l : List α} (h : SlP enc w v l) : ∃ a c, v = .slice a l.length c := by
  obtain ⟨a, _, _, c, rfl, _⟩ := h
  exact ⟨a, c, rfl⟩
/-- A row of one's own. -/
def RowP {α : Type} (enc : α → Value) (t : TypeId) (w : World) (B : Nat) (v : Value) (l : List α) : Prop := w.ownsRow B t 1 v l.length (l.map enc)
variable {α : Type} {enc : α → Value} {t : TypeId} {w w' : World} {B B' : Nat} {v : Value} {l : List α}
theorem RowP.nil (enc : α → Value) (t : TypeId) (w : World) (B : Nat) : RowP enc t w B (.slice none 0 0) [] := World.ownsRow_nil _ _ _ _
theorem RowP.open (h : RowP enc t w B v l) : (v = .slice none 0 0 ∧ l = []) ∨ ∃ (g cap : Nat) (cur : Array Value), v = .slice (some ⟨g, 0, none⟩) l.length cap ∧ B ≤ g ∧ w.heap[g]? = some (.cells cur t (0, 0)) ∧ l.length ≤ cap ∧ cap ≤ maxLen ∧ cur.size = cap ∧ cur.toList.take l.length = l.map enc := by
  have h' : w.ownsRow B t 1 v l.length (l.map enc) := h
  rcases h'.2 with ⟨rfl, h0⟩ | ⟨g, cap, cur, rfl, hB, hg, h2, h3, h4, h5⟩
  · exact .inl ⟨rfl, List.length_eq_zero_iff.1 h0⟩
  · exact .inr ⟨g, cap, cur, rfl, hB, hg, h2, h3, by simpa using h4, by simpa using h5⟩
theorem RowP.mk {g cap : Nat} {cur : Array Value} (hB : B ≤ g) (hg : w.heap[g]? = some (.cells cur t (0, 0))) (h1 : l.length ≤ cap) (h2 : cap ≤ maxLen) (h3 : cur.size = cap) (h4 : cur.toList.take l.length = l.map enc) : RowP enc t w B (.slice (some ⟨g, 0, none⟩) l.length cap) l :=
  ⟨by simp, .inr ⟨g, cap, cur, rfl, hB, hg, h1, h2, by simpa using h3, by simpa using h4⟩⟩
theorem RowP.slice (h : RowP enc t w B v l) : ∃ a c, v = .slice a l.length c := by
  rcases h.open with ⟨rfl, rfl⟩ | ⟨g, cap, cur, rfl, _⟩
  · exact ⟨none, 0, rfl⟩
  · exact ⟨_, _, rfl⟩
theorem RowP.cells (h : RowP enc t w B v l) {g o n c : Nat} (hv : v = .slice (some ⟨g, o, none⟩) n c) : o = 0 ∧ ∀ j x, l[j]? = some x → w.cell? ⟨g, j, none⟩ = some (enc x) ∧ w.frozen? ⟨g, j, none⟩ = false := by
  rcases h.open with ⟨rfl, rfl⟩ | ⟨g', cap, cur, rfl, _, hg, h1, _, h3, h4⟩
  · cases hv
  · cases hv
    refine ⟨rfl, fun j x hj => ⟨?_, by simp [World.frozen?, hg]⟩⟩
    have hlt := (List.getElem?_eq_some_iff.1 hj).1
    have : (cur.toList.take l.length)[j]? = some (enc x) := by rw [h4, List.getElem?_map, hj]; rfl
    rw [List.getElem?_take_of_lt hlt] at this
    simp [World.cell?, hg]
    simpa using this
theorem RowP.sl (h : RowP enc t w B v l) : SlP enc w v l := by
  rcases h.open with ⟨rfl, rfl⟩ | ⟨g, cap, cur, rfl, _⟩
  · exact ⟨none, 0, 0, 0, rfl, .inl rfl, fun j p hj => by simp at hj⟩
  · exact ⟨_, g, 0, cap, rfl, .inr rfl, fun j x hj => by rw [Nat.zero_add]; exact ((h.cells rfl).2 j x hj).1⟩
theorem RowP.below (h : RowP enc t w B v l) (hb : Below w.heap.size w w') : RowP enc t w' B v l := by
  rcases h.open with ⟨rfl, rfl⟩ | ⟨g, cap, cur, rfl, hB, hg, h1, h2, h3, h4⟩
  · exact RowP.nil _ _ _ _
  · exact .mk hB ((hb.block g (Array.getElem?_eq_some_iff.1 hg).1).trans hg) h1 h2 h3 h4
theorem RowP.base (h : RowP enc t w B v l) (hb : B' ≤ B) : RowP enc t w B' v l := by
  rcases h.open with ⟨rfl, rfl⟩ | ⟨g, cap, cur, rfl, hB, hg, h1, h2, h3, h4⟩
  · exact RowP.nil _ _ _ _
  · exact .mk (Nat.le_trans hb hB) hg h1 h2 h3 h4
/-- It stays where its block stays. -/
theorem RowP.keep (h : RowP enc t w B v l) (hk : ∀ g, v.ownBlock = some g → w'.heap[g]? = w.heap[g]?) : RowP enc t w' B v l := by
  rcases h.open with ⟨rfl, rfl⟩ | ⟨g, cap, cur, rfl, hB, hg, h1, h2, h3, h4⟩
  · exact RowP.nil _ _ _ _
  · exact .mk hB ((hk g rfl).trans hg) h1 h2 h3 h4
theorem RowP.lt (h : RowP enc t w B v l) {g : Nat} (hg : v.ownBlock = some g) : g < w.heap.size ∧ B ≤ g := by
  rcases h.open with ⟨rfl, rfl⟩ | ⟨g', cap, cur, rfl, hB, hg', _⟩
  · cases hg
  · cases hg; exact ⟨(Array.getElem?_eq_some_iff.1 hg').1, hB⟩
theorem getB [Inhabited α] {l : List α} {j : Nat} {x : α} (h : l[j]? = some x) : l.toArray[j]! = x := by
  have hl := (List.getElem?_eq_some_iff.1 h).1
  rw [getElem!_pos _ j (by simpa using hl)]
  simpa using (List.getElem?_eq_some_iff.1 h).2
theorem RowP.holds [Inhabited α] (h : RowP enc t w B v l) {g n c : Nat} (hv : v = .slice (some ⟨g, 0, none⟩) n c) : Holds enc w g 0 l.toArray := by
  intro j hj
  have hx : l[j]? = some l[j] := List.getElem?_eq_getElem (by simpa using hj)
  rw [getB hx, Nat.zero_add]
  exact (h.cells hv).2 j _ hx
theorem heap_putP [Inhabited α] {g n : Nat} {os : Array Obj} {cur : Array Value} {e : TypeId} {fr : Nat × Nat} (F : Array α) (hb : w.heap[g]? = some (.cells cur e fr)) :
    (grow (putRow enc (Sort.ahead w n) g 0 F) os).heap[g]? = some (.cells (putCells enc 0 F cur) e fr) := by
  have hg : g < w.heap.size := (Array.getElem?_eq_some_iff.1 hb).1
  rw [heap_grow_old _ _ (by simpa using hg)]
  simp [putRow, mapBlock, Sort.ahead, Array.getElem?_modify, hb, onCells]
theorem below_putP [Inhabited α] {g n : Nat} {os : Array Obj} (F : Array α) (hB : B ≤ g) (hg : g < w.heap.size) : Below B w (grow (putRow enc (Sort.ahead w n) g 0 F) os) := by
  refine ⟨rfl, rfl, rfl, by simp [grow, putRow, mapBlock, Sort.ahead], fun k hk => ?_⟩
  rw [heap_grow_old _ _ (by simp [putRow, mapBlock, Sort.ahead]; omega)]
  have : g ≠ k := by omega
  simp [putRow, mapBlock, Sort.ahead, Array.getElem?_modify, this]
theorem take_putP [Inhabited α] (cur : Array Value) (F : List α) (m : Nat) (h : F.length ≤ cur.size) (hm : m ≤ F.length) : (putCells enc 0 F.toArray cur).toList.take m = (F.take m).map enc := by
  apply List.ext_getElem?
  intro j
  by_cases hj : j < m
  · have hjF : j < F.length := by omega
    rw [List.getElem?_take_of_lt hj, Array.getElem?_toList, List.getElem?_map, List.getElem?_take_of_lt hj, List.getElem?_eq_getElem hjF]
    have : F.toArray[j]! = F[j] := getB (List.getElem?_eq_getElem hjF)
    simp [putCells, hjF, show j < cur.size by omega]
  · rw [List.getElem?_take_eq_none (by omega), List.getElem?_eq_none (by simp; omega)]
theorem size_putP [Inhabited α] (cur : Array Value) (F : Array α) (o : Nat) : (putCells enc o F cur).size = cur.size := by simp [putCells]
theorem grow_none (w : World) : grow w #[] = w := by simp [grow]
/-- WHAT IS WRITTEN OVER A ROW OF ONE'S OWN: what it holds then, cut to a length. -/
theorem RowP.put [Inhabited α] {g cap n : Nat} {os : Array Obj} (h : RowP enc t w B (.slice (some ⟨g, 0, none⟩) l.length cap) l) (F : List α) (m : Nat) (hF : F.length = l.length) (hm : m ≤ F.length) :
    RowP enc t (grow (putRow enc (Sort.ahead w n) g 0 F.toArray) os) B (.slice (some ⟨g, 0, none⟩) m cap) (F.take m) ∧ Below B w (grow (putRow enc (Sort.ahead w n) g 0 F.toArray) os) := by
  rcases h.open with ⟨hv, _⟩ | ⟨g', cap', cur, hv, hB, hg, h1, h2, h3, h4⟩
  · cases hv
  · cases hv
    have hl : (F.take m).length = m := by rw [List.length_take]; omega
    refine ⟨?_, below_putP _ hB (Array.getElem?_eq_some_iff.1 hg).1⟩
    have := RowP.mk (enc := enc) (t := t) (l := F.take m) (w := grow (putRow enc (Sort.ahead w n) g 0 F.toArray) os) (B := B) (cap := cap) hB (heap_putP F.toArray hg) (by rw [hl]; omega) h2 (by rw [size_putP]; exact h3) (by rw [hl]; exact take_putP cur F m (by omega) hm)
    rw [hl] at this
    exact this
/-- Nothing but a set's box and its row is another. -/
structure SetK (p B : Nat) (v : Value) (w w' : World) : Prop where
  size : w.heap.size ≤ w'.heap.size
  os : w'.os = w.os
  tape : w'.tape = w.tape
  output : w'.output = w.output
  keep : ∀ k, k ≠ p → v.ownBlock ≠ some k → k < w.heap.size → w'.heap[k]? = w.heap[k]?
theorem cell_same {w w' : World} {p : Nat} (h : w'.heap[p]? = w.heap[p]?) (o : Nat) : w'.cell? ⟨p, o, none⟩ = w.cell? ⟨p, o, none⟩ := by simp [World.cell?, h]
theorem frozen_same {w w' : World} {p : Nat} (h : w'.heap[p]? = w.heap[p]?) (o : Nat) : w'.frozen? ⟨p, o, none⟩ = w.frozen? ⟨p, o, none⟩ := by simp [World.frozen?, h]
theorem SetK.stored {w w2 : World} {p B : Nat} {v : Value} (hs : w.heap.size ≤ w2.heap.size) (ho : w2.os = w.os) (ht : w2.tape = w.tape) (hou : w2.output = w.output) (hk : ∀ k, v.ownBlock ≠ some k → k < w.heap.size → w2.heap[k]? = w.heap[k]?) (u : Value) :
    SetK p B v w (w2.setCell ⟨p, 0, none⟩ u) := by
  refine ⟨?_, ?_, ?_, ?_, fun k hp hv hlt => (Below.heap_setCell w2 _ u k hp).trans (hk k hv hlt)⟩
  · simpa [World.setCell] using hs
  · simpa [World.setCell] using ho
  · simpa [World.setCell] using ht
  · simpa [World.setCell] using hou
theorem ins_len {α : Type} {l : List α} {p : Nat} {x : α} (h : p ≤ l.length) : (Tx.ins l p x).length = l.length + 1 := by
  unfold Tx.ins; simp; omega
theorem del_len {α : Type} {l : List α} {p : Nat} (h : p < l.length) : (Tx.del l p).length = l.length - 1 := by
  unfold Tx.del; simp; omega
end Go.Proofs.YtnhbdonffomibaaGreat
