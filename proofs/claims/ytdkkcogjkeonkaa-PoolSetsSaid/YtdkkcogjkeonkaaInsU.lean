/- The contract of slices.Insert of one cell, at a row of one's own. -/
import Derived.Test.YtdkkcogjkeonkaaNdBase
import Derived.Test.YtdkkcogjkeonkaaNdU
import Derived.Test.YtdkkcogjkeonkaaSlMem
import Derived.Shelf.Spec.SlicesInsert
import Derived.Shelf.RegionOpenPlain
set_option maxRecDepth 100000
set_option maxHeartbeats 4000000
set_option linter.unusedVariables false
namespace Go.Proofs.Ytdkkcogjkeonkaa
open Go.RowKit
open Sl (Cl Kd)
inductive InsOutU (B : Nat) (u : Value) (l : List Nat) (w : World) (e : Ending) (w' : World) : Prop
  | mk (v : Value) (he : e = .returned v) (hr : RowU w' B v l) (hb : Below B w w') (hk : ∀ k, u.ownBlock ≠ some k → k < w.heap.size → w'.heap[k]? = w.heap[k]?) (hf : v.ownBlock = u.ownBlock ∨ ∃ g, v.ownBlock = some g ∧ w.heap.size ≤ g)
theorem flatAtU (x : Nat) (vb : Nat) (T : TypeId) (w : World) (hvb : w.heap[vb]? = some (.cells (cellsU x).toArray T (0, 0))) : ∀ j u, (cellsU x)[j]? = some u → w.cell? ((⟨vb, 0, none⟩ : Addr).add j) = some u := by
  intro j u hj
  rw [add_plain', Nat.zero_add, cell_of_row w vb j _ T (0, 0) hvb]
  simpa using hj
theorem rowAtU (w : World) (g : Nat) (cur : Array Value) (l : List Nat) (hg : w.heap[g]? = some (.cells cur 24 (0, 0))) (htk : cur.toList.take (l.length * 1) = l.flatMap cellsU) (k : Nat) : ∀ j u, ((l.flatMap cellsU).drop (k * 1))[j]? = some u → w.cell? ((⟨g, k * 1, none⟩ : Addr).add j) = some u := by
  intro j u hj
  rw [add_plain', cell_of_row w g _ _ _ (0, 0) hg]
  rw [List.getElem?_drop, ← htk] at hj
  have hlt := (List.getElem?_eq_some_iff.1 hj).1
  rw [List.length_take] at hlt
  rw [List.getElem?_take_of_lt (by omega)] at hj
  simpa using hj
theorem flat_takeU (l : List Nat) (x : Nat) (i : Nat) : (l.flatMap cellsU).take (i * 1) ++ cellsU x ++ (l.flatMap cellsU).drop (i * 1) = (l.take i ++ x :: l.drop i).flatMap cellsU := by
  have h : ∀ (l : List Nat) (i : Nat), (l.flatMap cellsU).take (i * 1) = (l.take i).flatMap cellsU ∧ (l.flatMap cellsU).drop (i * 1) = (l.drop i).flatMap cellsU := by
    intro l
    induction l with
    | nil => intro i; simp
    | cons y t ih =>
      intro i
      cases i with
      | zero => simp
      | succ i =>
        obtain ⟨h1, h2⟩ := ih i
        have hl := cellsU_len y
        rw [List.flatMap_cons, List.take_succ_cons, List.drop_succ_cons, List.flatMap_cons, show (i + 1) * 1 = (cellsU y).length + i * 1 by rw [hl]; omega, List.take_append, List.drop_append]
        rw [List.take_of_length_le (by omega), List.drop_of_length_le (by omega), Nat.add_sub_cancel_left, h1, h2]
        exact ⟨rfl, rfl⟩
  obtain ⟨h1, h2⟩ := h l i
  rw [h1, h2, List.flatMap_append, List.flatMap_cons, List.append_assoc]
set_option maxHeartbeats 4000000 in
theorem insertU_shift (B g cap i vb vc : Nat) (cur : Array Value) (l : List Nat) (x : Nat) (T : TypeId) (w : World) (hi : i < l.length) (hroom : l.length + 1 ≤ cap) (hcap : cap ≤ maxLen) (hg : w.heap[g]? = some (.cells cur 24 (0, 0))) (hB : B ≤ g) (hsz : cur.size = cap * 1) (htk : cur.toList.take (l.length * 1) = l.flatMap cellsU) (hvb : w.heap[vb]? = some (.cells (cellsU x).toArray T (0, 0))) (hne : vb ≠ g) :
    Calls Try.prog 28 #[.slice (some ⟨g, 0, none⟩) l.length cap, .int .i64 i, .slice (some ⟨vb, 0, none⟩) 1 vc] w (InsOutU B (.slice (some ⟨g, 0, none⟩) l.length cap) (l.take i ++ x :: l.drop i) w) := by
  obtain ⟨i0, hi0, hz0, hz1, hz2⟩ := info_parts infoU
  have hs1 : (Try.prog.info? 24).map (·.size) = some 1 := by rw [hi0]; simp [hz1]
  have hflen : (l.flatMap cellsU).length = l.length * 1 := flat_len _ _ cellsU_len _
  have hfd : ((l.flatMap cellsU).drop (i * 1)).length = (l.length - i) * 1 := by rw [List.length_drop, hflen]; omega
  have hxl := cellsU_len x
  have hxs : (cellsU x).toArray.size = 1 := by simpa using hxl
  have hcl : cur.toList.length = cap * 1 := by simpa using hsz
  have hov : ∀ lb cb, (callFunc 43 #[.slice (some ⟨vb, 0, none⟩) 1 vc, .slice (some ⟨g, (i + 1) * 1, none⟩) lb cb]).run Try.prog w = .ok (.value (.bool false)) w := fun lb cb => by
    rw [run_callFunc_extern Try.func43 (by kernel_rfl) (by kernel_rfl) (by kernel_rfl) (e := Extern.SlicesOverlaps.overlaps #[22, 22] #[4]) (by kernel_rfl),
      Lib.run_overlaps_apart w 22 4 24 Try.underlying22 1 (fun w => by kernel_rfl) ⟨vb, 0, none⟩ ⟨g, (i + 1) * 1, none⟩ 1 vc lb cb hne T 24 1 (cap * 1) (by simp [World.shape?, hvb, hxs]) (by simp [World.shape?, hg, hsz]) (by omega) (by simp [World.frozen?, hvb]) (by simp [World.frozen?, hvb])]
    rfl
  obtain ⟨R1, hR1⟩ : ∃ R1, R1 = cur.toList.take ((i + 1) * 1) ++ (l.flatMap cellsU).drop (i * 1) ++ cur.toList.drop ((i + 1) * 1 + ((l.flatMap cellsU).drop (i * 1)).length) := ⟨_, rfl⟩
  obtain ⟨R2, hR2⟩ : ∃ R2, R2 = R1.take (i * 1) ++ cellsU x ++ R1.drop (i * 1 + (cellsU x).length) := ⟨_, rfl⟩
  have hR1l : R1.length = cap * 1 := by rw [hR1]; simp only [List.length_append, List.length_take, List.length_drop, hcl, hflen]; omega
  have hcp1 : ∀ ty dl dc sl sc, dl = l.length - i → sl = l.length + 1 - i → (Builtin.copy_ #[22, 22] ty #[.slice (some ⟨g, (i + 1) * 1, none⟩) dl dc, .slice (some ⟨g, i * 1, none⟩) sl sc]).run Try.prog w.drew = .ok (goInt (Nat.min sl dl)) (w.drew.setRow g R1.toArray) := fun ty dl dc sl sc h1 h2 => by
    subst h1; subst h2
    rw [hR1]
    exact run_copy_rowS w.drew _ _ ty 24 1 g ((i + 1) * 1) _ dc ⟨g, i * 1, none⟩ _ sc cur 24 ((l.flatMap cellsU).drop (i * 1)) Try.underlying22 hs1 hg (by rw [hfd]; simp only [Nat.min_def]; split <;> omega) (rowAtU w.drew g cur l hg htk i) (by rw [hfd, hsz]; omega) (fun v hv => flat_oneU l v (List.mem_of_mem_drop hv))
  have hcp2 : ∀ (W : World), W.heap = (w.drew.setRow g R1.toArray).heap → ∀ ty dl dc, 1 ≤ dl → (Builtin.copy_ #[22, 22] ty #[.slice (some ⟨g, i * 1, none⟩) dl dc, .slice (some ⟨vb, 0, none⟩) 1 vc]).run Try.prog W = .ok (goInt (Nat.min 1 dl)) (W.setRow g R2.toArray) := fun W hW ty dl dc h1 => by
    have hgW : W.heap[g]? = some (.cells R1.toArray 24 (0, 0)) := by rw [hW]; exact setRow_heap w.drew g cur _ _ _ hg
    have hvW : W.heap[vb]? = some (.cells (cellsU x).toArray T (0, 0)) := by rw [hW, setRow_other w.drew g vb _ hne]; exact hvb
    have := run_copy_rowS (P := Try.prog) W 22 22 ty 24 1 g (i * 1) dl dc ⟨vb, 0, none⟩ 1 vc R1.toArray 24 (cellsU x) Try.underlying22 hs1 hgW (by rw [hxl]; simp only [Nat.min_def]; split <;> omega) (flatAtU x vb T W hvW) (by rw [hxl, List.size_toArray, hR1l]; omega) (fun v hv => cellsU_one x v hv)
    rw [this, hR2]
  have HR : Hid (R2.length = cap * 1 ∧ R2.take ((l.length + 1) * 1) = (l.take i ++ x :: l.drop i).flatMap cellsU) := by
    have e1 : (i + 1) * 1 = i * 1 + 1 := by omega
    rw [e1] at hR1
    refine ⟨?_, ?_⟩
    · rw [hR2, hR1, seg_ins_len (i * 1) (l.length * 1) 1 cur.toList _ _ (by omega) htk (by rw [hcl]; omega) hxl, hcl]
    · rw [show (l.length + 1) * 1 = l.length * 1 + 1 by omega, hR2, hR1, seg_ins (i * 1) (l.length * 1) 1 cur.toList _ _ (by omega) htk (by rw [hcl]; omega) hxl, flat_takeU]
  have HG := Lib.hid hg
  have HB := Lib.hid hB
  have hin : ¬ ((i : Int) = (l.length : Int)) := by omega
  have hb2 : ¬ (cap = i + 1) := by omega
  have hb4 : ¬ (cap = i) := by omega
  have hb5 : i ≤ l.length := by omega
  have hw1 : IntKind.i64.wrap ((i : Int) + 1) = (i : Int) + 1 := IntWalk.i64_in _ (by unfold maxLen at hcap; omega)
  have hw2 : IntKind.i64.wrap ((l.length : Int) + 1) = (l.length : Int) + 1 := IntWalk.i64_in _ (by unfold maxLen at hcap; omega)
  have HCAP := Lib.hid hcap
  unfold maxLen at hcap
  have hb1 : (0 : Int) ≤ (i : Int) + 1 := by omega
  have htn : ((i : Int) + 1).toNat = i + 1 := by omega
  have htn2 : ((l.length : Int) + 1).toNat = l.length + 1 := by omega
  have HROOM := Lib.hid hroom
  have hb3 : (i : Int) ≤ (l.length : Int) + 1 := by omega
  have mixed : Try.prog.follows Departure.mixedOrders = true := by kernel_rfl
  clear hR1 hR2 hR1l hflen hfd hxs hcl hsz htk hvb hg hs1 hi0 hz0 hz1 hz2 hxl
  go_enter Try.func28, Try.ntmps28
  simp only [Nat.mul_one] at hov hcp1 hcp2
  go_wp2_with (simp only [hov])
  go_region_law_o (refine Go.Proofs.step_copy_runI rfl _ _ 22 22 rfl _ _ (by simp [Act.eval, Act.put]) (by simp [Act.eval, Act.put]) (hcp1 _ _ _ _ _ (by omega) (by omega)) ?_)
  go_wp2_with (refine Go.Proofs.wpList_copy_runI (o := ⟨some 82, _, _, _, _, _⟩) _ rfl _ _ 22 22 rfl _ _ rfl rfl (hcp2 _ rfl _ _ _ (by omega)) ?_)
  go_ret
  refine ⟨_, rfl, ?_, ?_, fun k hk _ => ?_, .inl rfl⟩
  · have hgW : (w.drew.setRow g R1.toArray).heap[g]? = some (.cells R1.toArray 24 (0, 0)) := setRow_heap w.drew g cur _ _ _ HG.out
    have hlen : (l.take i ++ x :: l.drop i).length = l.length + 1 := by simp only [List.length_append, List.length_take, List.length_cons, List.length_drop]; omega
    show World.ownsRow _ _ _ _ _ _ _
    rw [hlen]
    exact owns_setRow hgW HB.out HROOM.out HCAP.out HR.out.1 (by rw [flat_len _ _ cellsU_len _, hlen]) HR.out.2
  · exact below_setRow (below_setRow (Below.refl _ _).drew HB.out _) HB.out _
  · have hkg : k ≠ g := fun h => hk (by rw [h]; rfl)
    exact (setRow_other _ g k _ hkg).trans (setRow_other _ g k _ hkg)
end Go.Proofs.Ytdkkcogjkeonkaa
