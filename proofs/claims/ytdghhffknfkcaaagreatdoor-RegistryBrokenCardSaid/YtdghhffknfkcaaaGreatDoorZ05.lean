/- Texts of one seat, merged. -/
import Derived.Test.YtdghhffknfkcaaaGreatDoorZ04
import Derived.Test.YtdghhffknfkcaaaGreatDoorZ01
import Derived.Shelf.Spec.SlicesInsert
import Derived.Shelf.RegionOpenPlain
import Derived.Maps.AppendAt
import Derived.Test.YtdghhffknfkcaaaGreatDoorZ02
import Derived.Deep.DeepMust
set_option maxRecDepth 100000
set_option maxHeartbeats 4000000
set_option linter.unusedVariables false
/- The contract of slices.Insert of one cell, at a row of one's own. -/
namespace Go.Proofs.YtdghhffknfkcaaaGreatDoor
open Go.RowKit
open Sl (Cl Kd)
inductive InsOutT (B : Nat) (u : Value) (l : List (List UInt8)) (w : World) (e : Ending) (w' : World) : Prop
  | mk (v : Value) (he : e = .returned v) (hr : RowT w' B v l) (hb : Below B w w') (hk : ∀ k, u.ownBlock ≠ some k → k < w.heap.size → w'.heap[k]? = w.heap[k]?) (hf : v.ownBlock = u.ownBlock ∨ ∃ g, v.ownBlock = some g ∧ w.heap.size ≤ g)
theorem flatAtT (x : (List UInt8)) (vb : Nat) (T : TypeId) (w : World) (hvb : w.heap[vb]? = some (.cells (cellsT x).toArray T (0, 0))) : ∀ j u, (cellsT x)[j]? = some u → w.cell? ((⟨vb, 0, none⟩ : Addr).add j) = some u := by
  intro j u hj
  rw [add_plain', Nat.zero_add, cell_of_row w vb j _ T (0, 0) hvb]
  simpa using hj
theorem rowAtT (w : World) (g : Nat) (cur : Array Value) (l : List (List UInt8)) (hg : w.heap[g]? = some (.cells cur 9 (0, 0))) (htk : cur.toList.take (l.length * 1) = l.flatMap cellsT) (k : Nat) : ∀ j u, ((l.flatMap cellsT).drop (k * 1))[j]? = some u → w.cell? ((⟨g, k * 1, none⟩ : Addr).add j) = some u := by
  intro j u hj
  rw [add_plain', cell_of_row w g _ _ _ (0, 0) hg]
  rw [List.getElem?_drop, ← htk] at hj
  have hlt := (List.getElem?_eq_some_iff.1 hj).1
  rw [List.length_take] at hlt
  rw [List.getElem?_take_of_lt (by omega)] at hj
  simpa using hj
theorem flat_takeT (l : List (List UInt8)) (x : (List UInt8)) (i : Nat) : (l.flatMap cellsT).take (i * 1) ++ cellsT x ++ (l.flatMap cellsT).drop (i * 1) = (l.take i ++ x :: l.drop i).flatMap cellsT := by
  have h : ∀ (l : List (List UInt8)) (i : Nat), (l.flatMap cellsT).take (i * 1) = (l.take i).flatMap cellsT ∧ (l.flatMap cellsT).drop (i * 1) = (l.drop i).flatMap cellsT := by
    intro l
    induction l with
    | nil => intro i; simp
    | cons y t ih =>
      intro i
      cases i with
      | zero => simp
      | succ i =>
        obtain ⟨h1, h2⟩ := ih i
        have hl := cellsT_len y
        rw [List.flatMap_cons, List.take_succ_cons, List.drop_succ_cons, List.flatMap_cons, show (i + 1) * 1 = (cellsT y).length + i * 1 by rw [hl]; omega, List.take_append, List.drop_append]
        rw [List.take_of_length_le (by omega), List.drop_of_length_le (by omega), Nat.add_sub_cancel_left, h1, h2]
        exact ⟨rfl, rfl⟩
  obtain ⟨h1, h2⟩ := h l i
  rw [h1, h2, List.flatMap_append, List.flatMap_cons, List.append_assoc]
set_option maxHeartbeats 4000000 in
theorem insertT_shift (B g cap i vb vc : Nat) (cur : Array Value) (l : List (List UInt8)) (x : (List UInt8)) (T : TypeId) (w : World) (hi : i < l.length) (hroom : l.length + 1 ≤ cap) (hcap : cap ≤ maxLen) (hg : w.heap[g]? = some (.cells cur 9 (0, 0))) (hB : B ≤ g) (hsz : cur.size = cap * 1) (htk : cur.toList.take (l.length * 1) = l.flatMap cellsT) (hvb : w.heap[vb]? = some (.cells (cellsT x).toArray T (0, 0))) (hne : vb ≠ g) :
    Calls Tryz.prog 88 #[.slice (some ⟨g, 0, none⟩) l.length cap, .int .i64 i, .slice (some ⟨vb, 0, none⟩) 1 vc] w (InsOutT B (.slice (some ⟨g, 0, none⟩) l.length cap) (l.take i ++ x :: l.drop i) w) := by
  obtain ⟨i0, hi0, hz0, hz1, hz2⟩ := info_parts infoT
  have hs1 : (Tryz.prog.info? 9).map (·.size) = some 1 := by rw [hi0]; simp [hz1]
  have hflen : (l.flatMap cellsT).length = l.length * 1 := flat_len _ _ cellsT_len _
  have hfd : ((l.flatMap cellsT).drop (i * 1)).length = (l.length - i) * 1 := by rw [List.length_drop, hflen]; omega
  have hxl := cellsT_len x
  have hxs : (cellsT x).toArray.size = 1 := by simpa using hxl
  have hcl : cur.toList.length = cap * 1 := by simpa using hsz
  have hov : ∀ lb cb, (callFunc 126 #[.slice (some ⟨vb, 0, none⟩) 1 vc, .slice (some ⟨g, (i + 1) * 1, none⟩) lb cb]).run Tryz.prog w = .ok (.value (.bool false)) w := fun lb cb => by
    rw [run_callFunc_extern Tryz.func126 (by kernel_rfl) (by kernel_rfl) (by kernel_rfl) (e := Extern.SlicesOverlaps.overlaps #[52, 52] #[4]) (by kernel_rfl),
      Lib.run_overlaps_apart w 52 4 9 Tryz.underlying52 1 (fun w => by kernel_rfl) ⟨vb, 0, none⟩ ⟨g, (i + 1) * 1, none⟩ 1 vc lb cb hne T 9 1 (cap * 1) (by simp [World.shape?, hvb, hxs]) (by simp [World.shape?, hg, hsz]) (by omega) (by simp [World.frozen?, hvb]) (by simp [World.frozen?, hvb])]
    rfl
  obtain ⟨R1, hR1⟩ : ∃ R1, R1 = cur.toList.take ((i + 1) * 1) ++ (l.flatMap cellsT).drop (i * 1) ++ cur.toList.drop ((i + 1) * 1 + ((l.flatMap cellsT).drop (i * 1)).length) := ⟨_, rfl⟩
  obtain ⟨R2, hR2⟩ : ∃ R2, R2 = R1.take (i * 1) ++ cellsT x ++ R1.drop (i * 1 + (cellsT x).length) := ⟨_, rfl⟩
  have hR1l : R1.length = cap * 1 := by rw [hR1]; simp only [List.length_append, List.length_take, List.length_drop, hcl, hflen]; omega
  have hcp1 : ∀ ty dl dc sl sc, dl = l.length - i → sl = l.length + 1 - i → (Builtin.copy_ #[52, 52] ty #[.slice (some ⟨g, (i + 1) * 1, none⟩) dl dc, .slice (some ⟨g, i * 1, none⟩) sl sc]).run Tryz.prog w.drew = .ok (goInt (Nat.min sl dl)) (w.drew.setRow g R1.toArray) := fun ty dl dc sl sc h1 h2 => by
    subst h1; subst h2
    rw [hR1]
    exact run_copy_rowS w.drew _ _ ty 9 1 g ((i + 1) * 1) _ dc ⟨g, i * 1, none⟩ _ sc cur 9 ((l.flatMap cellsT).drop (i * 1)) Tryz.underlying52 hs1 hg (by rw [hfd]; simp only [Nat.min_def]; split <;> omega) (rowAtT w.drew g cur l hg htk i) (by rw [hfd, hsz]; omega) (fun v hv => flat_oneT l v (List.mem_of_mem_drop hv))
  have hcp2 : ∀ (W : World), W.heap = (w.drew.setRow g R1.toArray).heap → ∀ ty dl dc, 1 ≤ dl → (Builtin.copy_ #[52, 52] ty #[.slice (some ⟨g, i * 1, none⟩) dl dc, .slice (some ⟨vb, 0, none⟩) 1 vc]).run Tryz.prog W = .ok (goInt (Nat.min 1 dl)) (W.setRow g R2.toArray) := fun W hW ty dl dc h1 => by
    have hgW : W.heap[g]? = some (.cells R1.toArray 9 (0, 0)) := by rw [hW]; exact setRow_heap w.drew g cur _ _ _ hg
    have hvW : W.heap[vb]? = some (.cells (cellsT x).toArray T (0, 0)) := by rw [hW, setRow_other w.drew g vb _ hne]; exact hvb
    have := run_copy_rowS (P := Tryz.prog) W 52 52 ty 9 1 g (i * 1) dl dc ⟨vb, 0, none⟩ 1 vc R1.toArray 9 (cellsT x) Tryz.underlying52 hs1 hgW (by rw [hxl]; simp only [Nat.min_def]; split <;> omega) (flatAtT x vb T W hvW) (by rw [hxl, List.size_toArray, hR1l]; omega) (fun v hv => cellsT_one x v hv)
    rw [this, hR2]
  have HR : Hid (R2.length = cap * 1 ∧ R2.take ((l.length + 1) * 1) = (l.take i ++ x :: l.drop i).flatMap cellsT) := by
    have e1 : (i + 1) * 1 = i * 1 + 1 := by omega
    rw [e1] at hR1
    refine ⟨?_, ?_⟩
    · rw [hR2, hR1, seg_ins_len (i * 1) (l.length * 1) 1 cur.toList _ _ (by omega) htk (by rw [hcl]; omega) hxl, hcl]
    · rw [show (l.length + 1) * 1 = l.length * 1 + 1 by omega, hR2, hR1, seg_ins (i * 1) (l.length * 1) 1 cur.toList _ _ (by omega) htk (by rw [hcl]; omega) hxl, flat_takeT]
  have HG := Lib.hid hg
  have HB := Lib.hid hB
  have hin : ¬ ((i : Int) = (l.length : Int)) := by omega
  have hb2 : ¬ (cap = i + 1) := by omega
  have hb4 : ¬ (cap = i) := by omega
  have hb5 : i ≤ l.length := by omega
  have hw1 : IntKind.i64.wrap ((i : Int) + 1) = (i : Int) + 1 := IntWalk.i64_in _ (by unfold maxLen at hcap; omega)
  have hw2 : IntKind.i64.wrap ((l.length : Int) + 1) = (l.length : Int) + 1 := IntWalk.i64_in _ (by unfold maxLen at hcap; omega)
  have HCAP := Lib.hid hcap
  unfold maxLen at hcap
  have hb1 : (0 : Int) ≤ (i : Int) + 1 := by omega
  have htn : ((i : Int) + 1).toNat = i + 1 := by omega
  have htn2 : ((l.length : Int) + 1).toNat = l.length + 1 := by omega
  have HROOM := Lib.hid hroom
  have hb3 : (i : Int) ≤ (l.length : Int) + 1 := by omega
  have mixed : Tryz.prog.follows Departure.mixedOrders = true := by kernel_rfl
  clear hR1 hR2 hR1l hflen hfd hxs hcl hsz htk hvb hg hs1 hi0 hz0 hz1 hz2 hxl
  go_enter Tryz.func88, Tryz.ntmps88
  simp only [Nat.mul_one] at hov hcp1 hcp2
  go_wp2_with (simp only [hov])
  go_region_law_o (refine Go.Proofs.step_copy_runI rfl _ _ 52 52 rfl _ _ (by simp [Act.eval, Act.put]) (by simp [Act.eval, Act.put]) (hcp1 _ _ _ _ _ (by omega) (by omega)) ?_)
  go_wp2_with (refine Go.Proofs.wpList_copy_runI (o := ⟨some 82, _, _, _, _, _⟩) _ rfl _ _ 52 52 rfl _ _ rfl rfl (hcp2 _ rfl _ _ _ (by omega)) ?_)
  go_ret
  refine ⟨_, rfl, ?_, ?_, fun k hk _ => ?_, .inl rfl⟩
  · have hgW : (w.drew.setRow g R1.toArray).heap[g]? = some (.cells R1.toArray 9 (0, 0)) := setRow_heap w.drew g cur _ _ _ HG.out
    have hlen : (l.take i ++ x :: l.drop i).length = l.length + 1 := by simp only [List.length_append, List.length_take, List.length_cons, List.length_drop]; omega
    show World.ownsRow _ _ _ _ _ _ _
    rw [hlen]
    exact owns_setRow hgW HB.out HROOM.out HCAP.out HR.out.1 (by rw [flat_len _ _ cellsT_len _, hlen]) HR.out.2
  · exact below_setRow (below_setRow (Below.refl _ _).drew HB.out _) HB.out _
  · have hkg : k ≠ g := fun h => hk (by rw [h]; rfl)
    exact (setRow_other _ g k _ hkg).trans (setRow_other _ g k _ hkg)
end Go.Proofs.YtdghhffknfkcaaaGreatDoor
/- The contract of slices.Insert of one cell, at a row of one's own: at its end, and where there is no room. -/
namespace Go.Proofs.YtdghhffknfkcaaaGreatDoor
open Go.RowKit
open Sl (Cl Kd)
theorem insertT_end (B vb vc : Nat) (v : Value) (l : List (List UInt8)) (x : (List UInt8)) (T : TypeId) (w : World) (hv : RowT w B v l) (hB : B ≤ w.heap.size) (hl : l.length ≤ 100000) (hvb : w.heap[vb]? = some (.cells (cellsT x).toArray T (0, 0))) :
    Calls Tryz.prog 88 #[v, .int .i64 l.length, .slice (some ⟨vb, 0, none⟩) 1 vc] w (InsOutT B v (l ++ [x]) w) := by
  obtain ⟨i0, hi0, hz0, hz1, hz2⟩ := info_parts infoT
  have HOWN := Lib.hid hv
  have HLO := Lib.hid (fun k hk => (World.ownsRow.lt hv k hk).1)
  have HF := Lib.hid (flatAtT x vb T w hvb)
  have HXL := Lib.hid (show (cellsT x).length = 1 * 1 from cellsT_len x)
  have HX1 := Lib.hid (fun u hu => cellsT_one x u hu)
  have HFIN : Hid (∀ v' w1, w1.ownsRow B 9 1 v' (l.length + 1) (l.flatMap cellsT ++ cellsT x) → RowT w1 B v' (l ++ [x])) := fun v' w1 h => by
    show World.ownsRow _ _ _ _ _ _ _
    rw [List.length_append, List.flatMap_append]
    simpa using h
  obtain ⟨_, h1⟩ := hv
  rcases h1 with ⟨rfl, h0⟩ | ⟨g, cap, cur, rfl, hg, _, hn, hm, _, _⟩
  · obtain rfl : l = [] := List.length_eq_zero_iff.1 h0
    clear hvb
    go_enter Tryz.func88, Tryz.ntmps88
    go_wp2_with (at_builtin; refine wpList_append_own_at _ rfl _ _ 52 rfl B 9 i0 _ 1 16 Tryz.underlying52 hi0 hz0 hz1 hz2 rfl (by decide) _ 0 _ rfl HOWN.out ⟨vb, 0, none⟩ 1 vc (cellsT x) rfl HXL.out HF.out HX1.out (by unfold maxLen; omega) (by omega) hB ?_)
    intro v' w1 hown hgrow _ hat
    go_wp2
    go_ret
    exact ⟨_, rfl, HFIN.out _ _ hown, (Below.refl _ _).grown hgrow hB (fun k hk => by simp [Value.ownBlock] at hk), fun k hk hlt => hgrow.block k hlt (fun e => hk e.symm), hat.imp id (fun h => ⟨_, h, Nat.le_refl _⟩)⟩
  · unfold maxLen at hm
    clear hvb
    by_cases hcn : cap = l.length
    all_goals
      try subst hcn
      go_enter Tryz.func88, Tryz.ntmps88
      go_wp2_with (at_builtin; refine wpList_append_own_at _ rfl _ _ 52 rfl B 9 i0 _ 1 16 Tryz.underlying52 hi0 hz0 hz1 hz2 rfl (by decide) _ l.length _ rfl HOWN.out ⟨vb, 0, none⟩ 1 vc (cellsT x) rfl HXL.out HF.out HX1.out (by unfold maxLen; omega) (by omega) hB ?_)
      intro v' w1 hown hgrow _ hat
      go_wp2
      go_ret
      exact ⟨_, rfl, HFIN.out _ _ hown, (Below.refl _ _).grown hgrow hB HLO.out, fun k hk hlt => hgrow.block k hlt (fun e => hk e.symm), hat.imp id (fun h => ⟨_, h, Nat.le_refl _⟩)⟩
theorem zeros_lenT (z : Array Value) (n : Nat) : (Builtin.zeroCells z n).size = n * z.size := by simp [Builtin.zeroCells]
set_option maxHeartbeats 8000000 in
theorem insertT_grow (B g cap i vb vc : Nat) (cur : Array Value) (l : List (List UInt8)) (x : (List UInt8)) (T : TypeId) (w : World) (hi : i < l.length) (hnc : l.length ≤ cap) (hroom : ¬ l.length + 1 ≤ cap) (hl : l.length ≤ 100000) (hB : B ≤ w.heap.size) (hg : w.heap[g]? = some (.cells cur 9 (0, 0))) (htk : cur.toList.take (l.length * 1) = l.flatMap cellsT) (hvb : w.heap[vb]? = some (.cells (cellsT x).toArray T (0, 0))) :
    Calls Tryz.prog 88 #[.slice (some ⟨g, 0, none⟩) l.length cap, .int .i64 i, .slice (some ⟨vb, 0, none⟩) 1 vc] w (InsOutT B (.slice (some ⟨g, 0, none⟩) l.length cap) (l.take i ++ x :: l.drop i) w) := by
  obtain ⟨i0, hi0, hz0, hz1, hz2⟩ := info_parts infoT
  obtain rfl : cap = l.length := by omega
  obtain ⟨z, hzz, hzs⟩ : ∃ z, i0.zero = some z ∧ z.cells.size = 1 := ⟨_, hz0, rfl⟩
  have hs1 : (Tryz.prog.info? 9).map (·.size) = some 1 := by rw [hi0]; simp [hz1]
  have hflen : (l.flatMap cellsT).length = l.length * 1 := flat_len _ _ cellsT_len _
  have hxl := cellsT_len x
  have hglt : g < w.heap.size := (Array.getElem?_eq_some_iff.1 hg).1
  have hvlt : vb < w.heap.size := (Array.getElem?_eq_some_iff.1 hvb).1
  have hrow : ∀ k, ∀ j u, ((l.flatMap cellsT).drop (k * 1))[j]? = some u → w.cell? ((⟨g, k * 1, none⟩ : Addr).add j) = some u := rowAtT w g cur l hg htk
  have hold : (Builtin.firstCells i0.size i (.slice (some ⟨g, 0, none⟩) i l.length)).run Tryz.prog w.drew = .ok ((l.flatMap cellsT).take (i * 1)).toArray w.drew := by
    rw [hz1]
    exact run_firstCells_some w.drew 1 i ⟨g, 0, none⟩ i l.length ((l.flatMap cellsT).take (i * 1)) (by rw [List.length_take, hflen]; omega) (fun j u hj => by
      have hj2 := (List.getElem?_eq_some_iff.1 hj).1
      rw [List.length_take] at hj2
      rw [List.getElem?_take_of_lt (by omega)] at hj
      exact hrow 0 j u (by rw [Nat.zero_mul, List.drop_zero]; exact hj))
  obtain ⟨G, hG⟩ : ∃ G, G = grownCap w (l.length + 1) l.length 9 := ⟨_, rfl⟩
  have hrz : ∀ ty, (Builtin.append_ #[52, 3] ty #[.slice (some ⟨g, 0, none⟩) i l.length, .int .i64 ((l.length : Int) + 1 - (i : Int))]).run Tryz.prog w =
      .ok (.slice (some ⟨w.heap.size, 0, none⟩) (l.length + 1) G) (w.drew.alloc (.cells (((l.flatMap cellsT).take (i * 1)).toArray ++ Builtin.zeroCells z.cells (l.length + 1 - i) ++ Builtin.zeroCells z.cells (G - (l.length + 1))) 9)) := fun ty => by
    have hik : i + (l.length + 1 - i) = l.length + 1 := by omega
    have h := Lib.run_append_grow_zeros w 52 3 ty 9 i0 _ .i64 .i64 Tryz.underlying52 Tryz.underlying3 hi0 hzz (some ⟨g, 0, none⟩) i l.length _ hold (l.length + 1 - i) (by omega) (by rw [hz1]; decide) (by omega) (by omega) (by rw [hz2]; omega) (by rw [hz2, hik]; exact growslice_fits (by omega) (by omega))
    rw [hik, ← hG] at h
    rw [show (l.length : Int) + 1 - (i : Int) = ((l.length + 1 - i : Nat) : Int) by omega]
    exact h
  obtain ⟨R0, hR0⟩ : ∃ R0 : Array Value, R0 = ((l.flatMap cellsT).take (i * 1)).toArray ++ Builtin.zeroCells z.cells (l.length + 1 - i) ++ Builtin.zeroCells z.cells (G - (l.length + 1)) := ⟨_, rfl⟩
  rw [← hR0] at hrz
  have hGn : l.length + 1 ≤ G := by rw [hG]; exact grownCap_ge w _ _ _
  have hGm : G ≤ maxLen := by rw [hG]; exact grownCap_le_maxLen w (l.length + 1) l.length 9 (by unfold maxLen; omega)
  have hR0l : R0.toList.length = G * 1 := by
    rw [hR0]
    simp only [Array.toList_append, List.length_append, Array.length_toList, zeros_lenT, hzs, List.length_take, hflen]
    omega
  have hR0t : R0.toList.take (i * 1) = (l.flatMap cellsT).take (i * 1) := by
    rw [hR0]
    simp only [Array.toList_append, List.append_assoc]
    rw [List.take_append_of_le_length (by rw [List.length_take, hflen]; omega), List.take_of_length_le (by rw [List.length_take]; omega)]
  obtain ⟨R1, hR1⟩ : ∃ R1, R1 = R0.toList.take (i * 1) ++ cellsT x ++ R0.toList.drop (i * 1 + (cellsT x).length) := ⟨_, rfl⟩
  obtain ⟨R2, hR2⟩ : ∃ R2, R2 = R1.take ((i + 1) * 1) ++ (l.flatMap cellsT).drop (i * 1) ++ R1.drop ((i + 1) * 1 + ((l.flatMap cellsT).drop (i * 1)).length) := ⟨_, rfl⟩
  have hR1l : R1.length = G * 1 := by rw [hR1]; simp only [List.length_append, List.length_take, List.length_drop, hR0l, hxl]; omega
  have hh0 : ∀ W : World, W.heap = (w.alloc (.cells R0 9)).heap → W.heap[w.heap.size]? = some (.cells R0 9 (0, 0)) := fun W hW => by rw [hW]; exact heap_alloc_new w _
  have hvW : ∀ W : World, W.heap = (w.alloc (.cells R0 9)).heap → W.heap[vb]? = some (.cells (cellsT x).toArray T (0, 0)) := fun W hW => by rw [hW, Below.heap_alloc w _ vb hvlt]; exact hvb
  have hcpA : ∀ (W : World), W.heap = (w.alloc (.cells R0 9)).heap → ∀ ty dl dc, 1 ≤ dl → (Builtin.copy_ #[52, 52] ty #[.slice (some ⟨w.heap.size, i * 1, none⟩) dl dc, .slice (some ⟨vb, 0, none⟩) 1 vc]).run Tryz.prog W = .ok (goInt (Nat.min 1 dl)) (W.setRow w.heap.size R1.toArray) := fun W hW ty dl dc h1 => by
    have := run_copy_rowS (P := Tryz.prog) W 52 52 ty 9 1 w.heap.size (i * 1) dl dc ⟨vb, 0, none⟩ 1 vc R0 9 (cellsT x) Tryz.underlying52 hs1 (hh0 W hW) (by rw [hxl]; simp only [Nat.min_def]; split <;> omega) (flatAtT x vb T W (hvW W hW)) (by rw [hxl, ← Array.length_toList, hR0l]; omega) (fun v hv => cellsT_one x v hv)
    rw [this, hR1]
  have hcpB : ∀ (W : World), W.heap = ((w.alloc (.cells R0 9)).setRow w.heap.size R1.toArray).heap → ∀ ty dl dc sl sc, dl = l.length - i → sl = l.length - i → (Builtin.copy_ #[52, 52] ty #[.slice (some ⟨w.heap.size, (i + 1) * 1, none⟩) dl dc, .slice (some ⟨g, i * 1, none⟩) sl sc]).run Tryz.prog W = .ok (goInt (Nat.min sl dl)) (W.setRow w.heap.size R2.toArray) := fun W hW ty dl dc sl sc h1 h2 => by
    subst h1; subst h2
    have hgW : W.heap[w.heap.size]? = some (.cells R1.toArray 9 (0, 0)) := by rw [hW]; exact setRow_heap _ _ R0 _ _ _ (heap_alloc_new w _)
    have hgg : W.heap[g]? = some (.cells cur 9 (0, 0)) := by rw [hW, setRow_other _ _ g _ (by omega), Below.heap_alloc w _ g hglt]; exact hg
    have hfd : ((l.flatMap cellsT).drop (i * 1)).length = (l.length - i) * 1 := by rw [List.length_drop, hflen]; omega
    have := run_copy_rowS (P := Tryz.prog) W 52 52 ty 9 1 w.heap.size ((i + 1) * 1) (l.length - i) dc ⟨g, i * 1, none⟩ (l.length - i) sc R1.toArray 9 ((l.flatMap cellsT).drop (i * 1)) Tryz.underlying52 hs1 hgW (by rw [hfd]; simp only [Nat.min_def]; split <;> omega) (rowAtT W g cur l hgg htk i) (by rw [hfd, List.size_toArray, hR1l]; omega) (fun v hv => flat_oneT l v (List.mem_of_mem_drop hv))
    rw [this, hR2]
  have HR : Hid (R2.length = G * 1 ∧ R2.take ((l.length + 1) * 1) = (l.take i ++ x :: l.drop i).flatMap cellsT) := by
    have e1 : (i + 1) * 1 = i * 1 + 1 := by omega
    rw [e1] at hR2
    refine ⟨?_, ?_⟩
    · rw [hR2, hR1, seg_ins2_len (i * 1) (l.length * 1) 1 R0.toList _ _ (by omega) hflen (by rw [hR0l]; omega) hxl, hR0l]
    · rw [show (l.length + 1) * 1 = l.length * 1 + 1 by omega, hR2, hR1, seg_ins2 (i * 1) (l.length * 1) 1 R0.toList _ _ (by omega) hflen hR0t (by rw [hR0l]; omega) hxl, flat_takeT]
  have HB := Lib.hid hB
  have HGN := Lib.hid hGn
  have HGM := Lib.hid hGm
  unfold maxLen at hGm
  have hin : ¬ ((i : Int) = (l.length : Int)) := by omega
  have hb4 : ¬ (l.length = i) := by omega
  have hb5 : i ≤ l.length := by omega
  have hb6 : ¬ (G = i) := by omega
  have hb7 : ¬ (G = i + 1) := by omega
  have hw1 : IntKind.i64.wrap ((i : Int) + 1) = (i : Int) + 1 := IntWalk.i64_in _ (by omega)
  have hw2 : IntKind.i64.wrap ((l.length : Int) + 1) = (l.length : Int) + 1 := IntWalk.i64_in _ (by omega)
  have hw3 : IntKind.i64.wrap ((l.length : Int) + 1 - (i : Int)) = (l.length : Int) + 1 - (i : Int) := IntWalk.i64_in _ (by omega)
  have hb1 : (0 : Int) ≤ (i : Int) + 1 := by omega
  have htn : ((i : Int) + 1).toNat = i + 1 := by omega
  have hb3 : (i : Int) ≤ (l.length : Int) + 1 := by omega
  have mixed : Tryz.prog.follows Departure.mixedOrders = true := by kernel_rfl
  clear hR0 hR1 hR2 hR0l hR0t hR1l hh0 hvW hflen htk hvb hg hs1 hi0 hz0 hz1 hz2 hxl hzz hzs hrow hold hG hglt hvlt hroom hnc
  simp only [Nat.mul_one] at hcpA hcpB
  go_enter Tryz.func88, Tryz.ntmps88
  go_wp2_with (first
    | (at_builtin; refine Lib.wpList_append_run _ rfl _ _ _ _ rfl _ _ rfl rfl _ _ (hrz _) ?_)
    | (refine Go.Proofs.wpList_copy_runI (o := ⟨some 45, _, _, _, _, _⟩) _ rfl _ _ 52 52 rfl _ _ rfl rfl (hcpA (w.alloc (.cells R0 9)).drew rfl _ _ _ (by omega)) ?_))
  go_region_law_o (refine Go.Proofs.step_copy_runI rfl _ _ 52 52 rfl (.slice (some ⟨w.heap.size, i + 1, none⟩) (l.length - i) (G - (i + 1))) (.slice (some ⟨g, i, none⟩) (l.length - i) (l.length - i)) (by simp [Act.eval, Act.put]) (by simp [Act.eval, Act.put]) (hcpB (((w.alloc (.cells R0 9)).drew.setRow w.heap.size R1.toArray).drew) rfl 3 _ _ _ _ rfl rfl) ?_)
  go_wp2
  go_ret
  refine ⟨_, rfl, ?_, ?_, fun k _ hlt => ?_, .inr ⟨_, rfl, Nat.le_refl _⟩⟩
  · have hgW : ((w.alloc (.cells R0 9)).drew.setRow w.heap.size R1.toArray).drew.heap[w.heap.size]? = some (.cells R1.toArray 9 (0, 0)) := setRow_heap _ _ R0 _ _ _ (heap_alloc_new w _)
    have hlen : (l.take i ++ x :: l.drop i).length = l.length + 1 := by simp only [List.length_append, List.length_take, List.length_cons, List.length_drop]; omega
    show World.ownsRow _ _ _ _ _ _ _
    rw [hlen]
    exact owns_setRow hgW HB.out HGN.out HGM.out HR.out.1 (by rw [flat_len _ _ cellsT_len _, hlen]) HR.out.2
  · exact below_setRow (below_setRow ((Below.refl _ _).alloc HB.out _).drew HB.out _).drew HB.out _
  · have hkg : k ≠ w.heap.size := by omega
    exact ((setRow_other _ w.heap.size k _ hkg).trans (setRow_other _ w.heap.size k _ hkg)).trans (Below.heap_alloc w _ k hlt)
end Go.Proofs.YtdghhffknfkcaaaGreatDoor
/- The contracts of slices.Insert and slices.Delete of one text, at a row of one's own. -/
namespace Go.Proofs.YtdghhffknfkcaaaGreatDoor
open Go.RowKit Go.Sort
theorem insertT_any (B vb vc i : Nat) (v : Value) (l : List (List UInt8)) (x : (List UInt8)) (T : TypeId) (w : World) (hi : i ≤ l.length) (hl : l.length ≤ 100000) (hv : RowT w B v l) (hB : B ≤ w.heap.size) (hvb : w.heap[vb]? = some (.cells (cellsT x).toArray T (0, 0))) (hne : v.ownBlock ≠ some vb) :
    Calls Tryz.prog 88 #[v, .int .i64 i, .slice (some ⟨vb, 0, none⟩) 1 vc] w (InsOutT B v (l.take i ++ x :: l.drop i) w) := by
  by_cases he : i = l.length
  · subst he
    rw [List.take_length, List.drop_length]
    exact insertT_end B vb vc v l x T w hv hB hl hvb
  · obtain ⟨_, h1⟩ := hv
    rcases h1 with ⟨rfl, h0⟩ | ⟨g, cap, cur, rfl, hg, hh, hn, hm, hs, ht⟩
    · omega
    · have hng : vb ≠ g := fun h => hne (by rw [h]; rfl)
      by_cases hr : l.length + 1 ≤ cap
      · exact insertT_shift B g cap i vb vc cur l x T w (by omega) hr hm hh hg hs ht hvb hng
      · exact insertT_grow B g cap i vb vc cur l x T w (by omega) hn hr hl hB hh ht hvb
theorem flat_eS (l : List Txt) : l.flatMap cellsT = l.map eS := by
  induction l with
  | nil => rfl
  | cons x t ih => rw [List.flatMap_cons, ih]; rfl
theorem rowT_iff (w : World) (B : Nat) (v : Value) (l : List Txt) : RowT w B v l = RowS w B v l := by
  unfold RowT RowS RowP
  rw [flat_eS]
theorem oneS : OneCell eS := fun _ => rfl
/-- What Insert answers. -/
structure InsS (B : Nat) (u : Value) (l : List Txt) (w : World) (v : Value) (w' : World) : Prop where
  row : RowS w' B v l
  below : Below B w w'
  keep : ∀ k, u.ownBlock ≠ some k → k < w.heap.size → w'.heap[k]? = w.heap[k]?
  at' : v.ownBlock = u.ownBlock ∨ ∃ g, v.ownBlock = some g ∧ w.heap.size ≤ g
theorem sxIns_any (B vb vc i : Nat) (v : Value) (l : List Txt) (x : Txt) (T : TypeId) (w : World) (hi : i ≤ l.length) (hl : l.length ≤ 100000) (hv : RowS w B v l) (hB : B ≤ w.heap.size) (hvb : w.heap[vb]? = some (.cells #[.string (str x)] T (0, 0))) (hne : v.ownBlock ≠ some vb) :
    Calls Tryz.prog 88 #[v, .int .i64 i, .slice (some ⟨vb, 0, none⟩) 1 vc] w fun e w' => ∃ v', e = .returned v' ∧ InsS B v (Tx.ins l i x) w v' w' :=
  (insertT_any B vb vc i v l x T w hi hl (by rw [rowT_iff]; exact hv) hB hvb hne).mono fun e w' h => by
    obtain ⟨v', he, hr, hb, hk, hf⟩ := h
    rw [rowT_iff] at hr
    exact ⟨v', he, hr, hb, hk, hf⟩
/-- What Delete of one answers. -/
theorem sxDel_any (B g cap i : Nat) (l : List Txt) (w : World) (hi : i < l.length) (hv : RowS w B (.slice (some ⟨g, 0, none⟩) l.length cap) l) :
    Calls Tryz.prog 220 #[.slice (some ⟨g, 0, none⟩) l.length cap, .int .i64 i, .int .i64 ((i : Int) + 1)] w fun e w' => ∃ v', e = .returned v' ∧ v'.ownBlock = some g ∧ InsS B (.slice (some ⟨g, 0, none⟩) l.length cap) (Tx.del l i) w v' w' := by
  obtain ⟨i0, hi0, hz0, hz1, hz2⟩ := info_parts infoS
  have hcap : l.length ≤ cap ∧ cap ≤ 9223372036854775807 ∧ B ≤ g ∧ g < w.heap.size := by
    rcases hv.open with ⟨h, _⟩ | ⟨g', cap', cur, h, hB, hg, h1, h2, _⟩
    · cases h
    · cases h; exact ⟨h1, h2, hB, (Array.getElem?_eq_some_iff.1 hg).1⟩
  have hF : (l.take i ++ l.drop (i + 1) ++ List.replicate (i + 1 - i) ([] : Txt)).length = l.length := by simp; omega
  have h := Tryz.slices_Delete eS oneS ([] : Txt) (fun w => Tryz.zeroValue9 w) i0 hi0 hz1 g 0 cap i (i + 1) l.toArray w (hv.holds rfl) (by simpa using hcap.1) hcap.2.1 (by omega) (by show i + 1 ≤ l.length; omega)
  refine h.mono ?_
  rintro e w' ⟨he, q, hw⟩
  obtain ⟨hr, hb⟩ := RowP.put (n := q) (os := #[]) hv (l.take i ++ l.drop (i + 1) ++ List.replicate (i + 1 - i) ([] : Txt)) (l.length - 1) hF (by omega)
  rw [grow_none] at hr hb
  have hd : (l.take i ++ l.drop (i + 1) ++ List.replicate (i + 1 - i) ([] : Txt)).take (l.length - 1) = Tx.del l i := by
    rw [List.take_append_of_le_length (by simp; omega), List.take_of_length_le (by simp; omega)]; rfl
  rw [hd] at hr
  refine ⟨_, he, rfl, ?_, ?_, ?_, .inl rfl⟩
  · rw [hw]
    have e1 : l.toArray.size - (i + 1 - i) = l.length - 1 := by simp
    rw [e1]; exact hr
  · rw [hw]; exact hb
  · intro k hk _
    rw [hw]
    have : g ≠ k := fun h => hk (by rw [h]; rfl)
    simp [putRow, mapBlock, Sort.ahead, Array.getElem?_modify, this]
end Go.Proofs.YtdghhffknfkcaaaGreatDoor
/- A set of texts: Add, Remove. -/
namespace Go.Proofs.YtdghhffknfkcaaaGreatDoor
open Go.RowKit Go.Sort
open Tx (Rise At Ord above)
/-- What a set has with one more. -/
def addS (l : List Txt) (x : Txt) (l' : List Txt) : Prop := Rise slt l' ∧ (∀ y, y ∈ l' ↔ y = x ∨ y ∈ l) ∧ l'.length ≤ l.length + 1
/-- What a set has with one less. -/
def remS (l : List Txt) (x : Txt) (l' : List Txt) : Prop := Rise slt l' ∧ (∀ y, y ∈ l' ↔ y ≠ x ∧ y ∈ l) ∧ l'.length ≤ l.length
/-- The box is written with a row of its own that stands in another block. -/
theorem SetT.stored {w w2 : World} {p B : Nat} {v v' : Value} {l l' : List Txt} (h : SetT w p B v l) (hp : w2.heap[p]? = w.heap[p]?) (hr : RowS w2 B v' l') (hrise : Rise slt l') (hne : v'.ownBlock ≠ some p) :
    SetT (w2.setCell ⟨p, 0, none⟩ v') p B v' l' := by
  have c2 := (cell_same hp 0).trans h.c0
  refine ⟨World.cell?_setCell_same' _ _ _ (by rw [c2]; rfl), by rw [World.frozen?_setCell]; exact (frozen_same hp 0).trans h.f0, hr.keep (fun g hg => Below.heap_setCell w2 _ v' g (fun e => hne (by rw [hg]; exact congrArg some e))), hrise, hne⟩
theorem sxAdd_any {w : World} {p B : Nat} {v : Value} {l : List Txt} (h : SetT w p B v l) (hl : l.length ≤ 90000) (hB : B ≤ w.heap.size) (x : Txt) :
    Calls Tryz.prog 46 #[.pointer (some ⟨p, 0, none⟩), .string (str x)] w fun e w' => (∃ b, e = .returned (.bool b)) ∧ ∃ v' l', SetT w' p B v' l' ∧ addS l x l' ∧ SetK p B v w w' ∧ (v'.ownBlock = v.ownBlock ∨ ∃ g, v'.ownBlock = some g ∧ w.heap.size ≤ g) := by
  have HP := Lib.hid (sxPlace_any h (by omega) x)
  have hn := fun W => setT_not_nil W p
  have HS := Lib.hid h
  have HLT := Lib.hid (World.block_lt_of_cell? _ _ h.c0)
  have hlt := HLT.out
  obtain ⟨a, c, rfl⟩ := h.row.slice
  clear h
  go_enter Tryz.func46, Tryz.ntmps46
  go_upto_region 2 with (go_at_call 87; refine HP.out.mono ?_; rintro e w1 ⟨k, rfl, hat, q, rfl⟩; have HAT := Lib.hid hat; clear hat)
  have hk := HAT.out.le
  by_cases hx : l[k]? = some x
  · rw [decide_eq_true hx]
    have HX := Lib.hid hx
    clear hx
    go_wp2
    go_ret
    exact ⟨⟨_, rfl⟩, _, l, HS.out.drewN q, ⟨HS.out.rise, fun y => ⟨.inr, fun h => h.elim (fun e => by rw [e]; exact List.mem_of_getElem? HX.out) id⟩, by omega⟩, ⟨Nat.le_refl _, rfl, rfl, rfl, fun _ _ _ _ => rfl⟩, .inl rfl⟩
  · rw [decide_eq_false hx]
    have HX := Lib.hid hx
    clear hx
    have c0 : (w.drewN q).cell? ⟨p, 0, none⟩ = some (.slice a l.length c) := (HS.out.drewN q).c0
    have f0 : (w.drewN q).frozen? ⟨p, 0, none⟩ = false := (HS.out.drewN q).f0
    have HI := Lib.hid (fun T => sxIns_any B (w.drewN q).heap.size 1 k (.slice a l.length c) l x T ((w.drewN q).alloc (.cells #[.string (str x)] T)) hk (by omega) ((HS.out.drewN q).row.below ((Below.refl _ _).alloc (Nat.le_refl _) _)) (by simp; omega) (heap_alloc_new _ _) (fun e => by have := ((HS.out.drewN q).row.lt e).1; omega))
    go_wp2_with (go_at_call 88; refine (HI.out _).mono ?_; rintro e w2 ⟨v2, rfl, hi2⟩; have HI2 := Lib.hid hi2; obtain ⟨a2, c2, rfl⟩ := hi2.row.slice; have hw2p : w2.heap[p]? = w.heap[p]? := (hi2.keep p HS.out.ne (by simp; omega)).trans (Below.heap_alloc (w.drewN q) _ p hlt); have c2p : w2.cell? ⟨p, 0, none⟩ = some (.slice a l.length c) := (cell_same hw2p 0).trans HS.out.c0; have f2p : w2.frozen? ⟨p, 0, none⟩ = false := (frozen_same hw2p 0).trans HS.out.f0; have HWP := Lib.hid hw2p; clear hi2 hw2p)
    go_ret
    have hne2 : (Value.slice a2 (Tx.ins l k x).length c2).ownBlock ≠ some p := fun e => by
      have hlen := ins_len (x := x) hk
      rcases HI2.out.row.open with ⟨h, h0⟩ | ⟨g, cap, cur, h, _⟩
      · rw [h0] at hlen; cases hlen
      · have hx0 : (Tx.ins l k x)[0]? = some ((Tx.ins l k x)[0]'(by omega)) := List.getElem?_eq_getElem (by omega)
        have h1 := ((HI2.out.row.cells h).2 0 _ hx0).1
        rw [h] at e
        injection e with e
        have e' : g = p := e
        rw [e', c2p] at h1
        cases h1
    refine ⟨⟨_, rfl⟩, _, Tx.ins l k x, HS.out.stored HWP.out HI2.out.row (HAT.out.ins_rise sord HS.out.rise HX.out) hne2, ⟨HAT.out.ins_rise sord HS.out.rise HX.out, fun y => Tx.ins_mem, by rw [ins_len hk]; omega⟩, ?_, HI2.out.at'.imp id (fun ⟨g, hg, hle⟩ => ⟨g, hg, Nat.le_trans (by simp) hle⟩)⟩
    exact SetK.stored (w := w) (B := B) (p := p) (v := .slice a l.length c) (Nat.le_trans (by simp) HI2.out.below.size) HI2.out.below.os HI2.out.below.tape HI2.out.below.output (fun k hv hk' => (HI2.out.keep k hv (by simp; omega)).trans (Below.heap_alloc (w.drewN q) _ k hk')) _
theorem sxRemove_any {w : World} {p B : Nat} {v : Value} {l : List Txt} (h : SetT w p B v l) (hl : l.length ≤ 90000) (x : Txt) :
    Calls Tryz.prog 217 #[.pointer (some ⟨p, 0, none⟩), .string (str x)] w fun e w' => (∃ b, e = .returned (.bool b)) ∧ ∃ v' l', SetT w' p B v' l' ∧ remS l x l' ∧ SetK p B v w w' ∧ (v'.ownBlock = v.ownBlock ∨ ∃ g, v'.ownBlock = some g ∧ w.heap.size ≤ g) := by
  have HP := Lib.hid (sxPlace_any h (by omega) x)
  have HS := Lib.hid h
  obtain ⟨a, c, rfl⟩ := h.row.slice
  clear h
  go_enter Tryz.func217, Tryz.ntmps217
  go_upto_region 2 with (go_at_call 87; refine HP.out.mono ?_; rintro e w1 ⟨k, rfl, hat, q, rfl⟩; have HAT := Lib.hid hat; clear hat)
  have hk := HAT.out.le
  by_cases hx : l[k]? = some x
  · rw [decide_eq_true hx]
    have HX := Lib.hid hx
    have hkl := (List.getElem?_eq_some_iff.1 hx).1
    clear hx
    have c0 : (w.drewN q).cell? ⟨p, 0, none⟩ = some (.slice a l.length c) := (HS.out.drewN q).c0
    have f0 : (w.drewN q).frozen? ⟨p, 0, none⟩ = false := (HS.out.drewN q).f0
    obtain ⟨g, cap, hgc⟩ : ∃ g cap, (Value.slice a l.length c) = .slice (some ⟨g, 0, none⟩) l.length cap := by
      rcases HS.out.row.open with ⟨_, h⟩ | ⟨g, cap, _, h, _⟩
      · rw [h] at hkl; cases hkl
      · exact ⟨g, cap, h⟩
    cases hgc
    have HD := Lib.hid (sxDel_any B g c k l (w.drewN q) hkl (HS.out.drewN q).row)
    have HLT := Lib.hid (World.block_lt_of_cell? _ _ HS.out.c0)
    have hlt := HLT.out
    go_wp2_with (go_at_call 220; refine HD.out.mono ?_; rintro e w2 ⟨v2, rfl, hg2, hi2⟩; have HI2 := Lib.hid hi2; have HG2 := Lib.hid hg2; obtain ⟨a2, c2, rfl⟩ := hi2.row.slice; have hw2p : w2.heap[p]? = w.heap[p]? := hi2.keep p HS.out.ne hlt; have c2p : w2.cell? ⟨p, 0, none⟩ = some (.slice (some ⟨g, 0, none⟩) l.length c) := (cell_same hw2p 0).trans HS.out.c0; have f2p : w2.frozen? ⟨p, 0, none⟩ = false := (frozen_same hw2p 0).trans HS.out.f0; have HWP := Lib.hid hw2p; clear hi2 hw2p hg2)
    go_ret
    refine ⟨⟨_, rfl⟩, _, Tx.del l k, HS.out.stored HWP.out HI2.out.row (Tx.del_rise k HS.out.rise) (fun e => HS.out.ne (by rw [← e, HG2.out]; rfl)), ⟨Tx.del_rise k HS.out.rise, fun y => Tx.del_mem sord HS.out.rise HX.out, by rw [del_len hkl]; omega⟩, ?_, HI2.out.at'⟩
    exact SetK.stored (w := w) (B := B) (p := p) (v := .slice (some ⟨g, 0, none⟩) l.length c) HI2.out.below.size HI2.out.below.os HI2.out.below.tape HI2.out.below.output (fun k hv hk' => HI2.out.keep k hv hk') _
  · rw [decide_eq_false hx]
    have HX := Lib.hid hx
    clear hx
    go_wp2
    go_ret
    exact ⟨⟨_, rfl⟩, _, l, HS.out.drewN q, ⟨HS.out.rise, fun y => ⟨fun h => ⟨fun e => HX.out ((HAT.out.mem sord HS.out.rise).1 (e ▸ h)), h⟩, fun h => h.2⟩, by omega⟩, ⟨Nat.le_refl _, rfl, rfl, rfl, fun _ _ _ _ => rfl⟩, .inl rfl⟩
end Go.Proofs.YtdghhffknfkcaaaGreatDoor
/- What two texts are to each other. -/
namespace Go.Proofs.YtdghhffknfkcaaaGreatDoor
open Go.RowKit Go.Sort
theorem sxNaN_any (x : Txt) (w : World) : Calls Tryz.prog 155 #[.string (str x)] w fun e w' => e = .returned (.bool false) ∧ w = w' := by
  go_enter Tryz.func155, Tryz.ntmps155
  go_wp2
  go_ret
  exact ⟨by simp, rfl⟩
theorem str_list (t : Txt) : (str t).toList = t := by simp [str, ByteArray.toList_eq]
theorem str_less (x y : Txt) : Op.bytesLess (str x).toList (str y).toList = slt x y := by rw [str_list, str_list, bytesLess_eq]; rfl
theorem str_ne {x y : Txt} (h : x ≠ y) : ((str x).toList == (str y).toList) = false := by rw [str_list, str_list]; simpa using h
def cmpS (x y : Txt) : Int := if slt x y then -1 else if slt y x then 1 else 0
theorem sxCmp_any (x y : Txt) (w : World) : Calls Tryz.prog 112 #[.string (str x), .string (str y)] w fun e w' => e = .returned (.int .i64 (cmpS x y)) ∧ w = w' := by
  have hl := str_less x y
  have hq : cmpS x y = if slt x y then -1 else if slt y x then 1 else 0 := rfl
  have HQ := Lib.hid hq
  clear hq
  generalize cmpS x y = r at HQ ⊢
  cases h1 : slt x y with
  | true =>
    rw [h1] at HQ hl
    have hr : r = -1 := by rw [HQ.out]; rfl
    subst hr
    clear h1 HQ
    go_enter Tryz.func112, Tryz.ntmps112
    go_wp2_with (go_at_call 155; refine (sxNaN_any _ _).mono ?_; rintro e w1 ⟨rfl, rfl⟩)
    go_ret
    exact ⟨rfl, rfl⟩
  | false =>
    cases h2 : slt y x with
    | true =>
      rw [h1, h2] at HQ
      rw [h1] at hl
      have hm := str_ne (fun e : x = y => by rw [e, sord.irr] at h2; cases h2)
      have hr : r = 1 := by rw [HQ.out]; rfl
      subst hr
      clear h1 h2 HQ
      go_enter Tryz.func112, Tryz.ntmps112
      go_wp2_with (go_at_call 155; refine (sxNaN_any _ _).mono ?_; rintro e w1 ⟨rfl, rfl⟩)
      go_ret
      exact ⟨rfl, rfl⟩
    | false =>
      rw [h1, h2] at HQ
      rw [h1] at hl
      obtain rfl := sord.tri h1 h2
      have hm : ((str x).toList == (str x).toList) = true := by simp
      have hr : r = 0 := by rw [HQ.out]; rfl
      subst hr
      clear h1 h2 HQ
      go_enter Tryz.func112, Tryz.ntmps112
      go_wp2_with (go_at_call 155; refine (sxNaN_any _ _).mono ?_; rintro e w1 ⟨rfl, rfl⟩)
      go_ret
      exact ⟨rfl, rfl⟩
theorem sxSame_any (x y : Txt) (w : World) : Calls Tryz.prog 66 #[.string (str x), .string (str y)] w fun e w' => e = .returned (.bool (decide (x = y))) ∧ w = w' := by
  have HC := Lib.hid (sxCmp_any x y)
  by_cases h : x = y
  · subst h
    have h0 : cmpS x x = 0 := by simp [cmpS, sord.irr]
    rw [h0] at HC
    rw [decide_eq_true rfl]
    clear h0
    go_enter Tryz.func66, Tryz.ntmps66
    go_wp2_with (go_at_call 112; refine (HC.out _).mono ?_; rintro e w1 ⟨rfl, rfl⟩)
    go_ret
    exact ⟨rfl, rfl⟩
  · rw [decide_eq_false h]
    have h0 : cmpS x y = -1 ∨ cmpS x y = 1 := by
      unfold cmpS
      cases h1 : slt x y with
      | true => exact .inl rfl
      | false =>
        cases h2 : slt y x with
        | true => exact .inr rfl
        | false => exact absurd (sord.tri h1 h2) h
    clear h
    rcases h0 with h0 | h0
    all_goals
      rw [h0] at HC
      clear h0
      go_enter Tryz.func66, Tryz.ntmps66
      go_wp2_with (go_at_call 112; refine (HC.out _).mono ?_; rintro e w1 ⟨rfl, rfl⟩)
      go_ret
      exact ⟨rfl, rfl⟩
end Go.Proofs.YtdghhffknfkcaaaGreatDoor
