/- Texts of one seat, merged. -/
import Derived.Test.YtdgcdekgleegbaaGreatS09
import Derived.Lib.SlicesDelete
import Derived.Deep.RegionLaw
import Derived.Test.YtdgcdekgleegbaaGreatS02
import Derived.Test.YtdgcdekgleegbaaGreatS03
import Derived.WalkLawsBesides
import Derived.Lib.Strings
import Derived.Shelf.Strings.Builder1
import Derived.Shelf.Small.Strs
import Derived.Test.YtdgcdekgleegbaaGreatProg
import Derived.Lib.Bytealg
set_option maxRecDepth 100000
set_option maxHeartbeats 4000000
set_option linter.unusedVariables false
/- The contracts of slices.Insert and slices.Delete of one cell, at a row of one's own. -/
namespace Go.Proofs.YtdgcdekgleegbaaGreat
open Go.RowKit
open Sl (Cl Kd)
theorem insertC_any (B vb vc i : Nat) (v : Value) (l : List Cl) (x : Cl) (T : TypeId) (w : World) (hi : i ≤ l.length) (hl : l.length ≤ 100000) (hv : RowC w B v l) (hB : B ≤ w.heap.size) (hvb : w.heap[vb]? = some (.cells (cellsC x).toArray T (0, 0))) (hne : v.ownBlock ≠ some vb) :
    Calls Tryz.prog 140 #[v, .int .i64 i, .slice (some ⟨vb, 0, none⟩) 1 vc] w (InsOutC B (l.take i ++ x :: l.drop i) w) := by
  by_cases he : i = l.length
  · subst he
    rw [List.take_length, List.drop_length]
    exact insertC_end B vb vc v l x T w hv hB hl hvb
  · obtain ⟨_, h1⟩ := hv
    rcases h1 with ⟨rfl, h0⟩ | ⟨g, cap, cur, rfl, hg, hh, hn, hm, hs, ht⟩
    · omega
    · have hng : vb ≠ g := fun h => hne (by rw [h]; rfl)
      by_cases hr : l.length + 1 ≤ cap
      · exact insertC_shift B g cap i vb vc cur l x T w (by omega) hr hm hh hg hs ht hvb hng
      · exact insertC_grow B g cap i vb vc cur l x T w (by omega) hn hr hl hB hh ht hvb
theorem flat_cutC : ∀ (l : List Cl) (i : Nat), (l.flatMap cellsC).take (i * 4) = (l.take i).flatMap cellsC ∧ (l.flatMap cellsC).drop (i * 4) = (l.drop i).flatMap cellsC := by
  intro l
  induction l with
  | nil => intro i; simp
  | cons y t ih =>
    intro i
    cases i with
    | zero => simp
    | succ i =>
      obtain ⟨h1, h2⟩ := ih i
      have hl := cellsC_len y
      rw [List.flatMap_cons, List.take_succ_cons, List.drop_succ_cons, List.flatMap_cons, show (i + 1) * 4 = (cellsC y).length + i * 4 by rw [hl]; omega, List.take_append, List.drop_append]
      rw [List.take_of_length_le (by omega), List.drop_of_length_le (by omega), Nat.add_sub_cancel_left, h1, h2]
      exact ⟨rfl, rfl⟩
/-- The row is shorter; nothing but its own block is another. -/
inductive DelOutC (B : Nat) (u : Value) (l : List Cl) (w : World) (e : Ending) (w' : World) : Prop
  | mk (v : Value) (he : e = .returned v) (hr : RowC w' B v l) (hb : Below B w w') (hk : ∀ k, u.ownBlock ≠ some k → w'.heap[k]? = w.heap[k]?) (hz : w.heap.size ≤ w'.heap.size) (ho : v.ownBlock = u.ownBlock)
def zlC : List Value := [.string ⟨#[]⟩, .string ⟨#[]⟩, .int .u32 0, .int .u32 0]
set_option maxHeartbeats 8000000 in
theorem delC_any (B i : Nat) (v : Value) (l : List Cl) (w : World) (hi : i < l.length) (hl : l.length ≤ 100000) (hv : RowC w B v l) :
    Calls Tryz.prog 80 #[v, .int .i64 i, .int .i64 ((i : Int) + 1)] w (DelOutC B v (l.take i ++ l.drop (i + 1)) w) := by
  obtain ⟨i0, hi0, hz0, hz1, hz2⟩ := info_parts info42
  obtain ⟨_, h1⟩ := hv
  rcases h1 with ⟨rfl, h0⟩ | ⟨g, cap, cur, rfl, hB, hg, hn, hm, hsz, htk⟩
  · omega
  · have hflen : (l.flatMap cellsC).length = l.length * 4 := flat_len _ _ cellsC_len _
    have hcl : cur.toList.length = cap * 4 := by simpa using hsz
    obtain ⟨news, hnews⟩ : ∃ news, news = (l.flatMap cellsC).drop (i * 4 + 4) := ⟨_, rfl⟩
    have hnl : news.length = (l.length - (i + 1)) * 4 := by rw [hnews, List.length_drop, hflen]; omega
    have hin : ∀ j, j < cap * 4 → (w.drew.cell? ⟨g, j, none⟩).isSome = true ∧ w.drew.frozen? ⟨g, j, none⟩ = false := fun j hj => by
      refine ⟨?_, by show w.frozen? _ = false; simp [World.frozen?, hg]⟩
      show (w.cell? _).isSome = true
      rw [cell_of_row w g j _ _ (0, 0) hg, Array.getElem?_eq_getElem (by omega)]
      rfl
    obtain ⟨A, hA, hsrc⟩ : ∃ A : Addr, (if cap = i + 1 then (some ⟨g, 0, none⟩ : Option Addr) else some ⟨g, (i + 1) * 4, none⟩) = some A ∧ Hid (∀ j u, news[j]? = some u → w.drew.cell? (A.add j) = some u) := by
      by_cases h : cap = i + 1
      · refine ⟨⟨g, 0, none⟩, by simp [h], fun j u hu => ?_⟩
        have hz : news.length = 0 := by rw [hnl]; omega
        rw [List.length_eq_zero_iff.1 hz] at hu
        simp at hu
      · refine ⟨⟨g, (i + 1) * 4, none⟩, by simp [h], fun j u hu => ?_⟩
        exact rowAtC w.drew g cur l hg htk (i + 1) j u (by rw [show (i + 1) * 4 = i * 4 + 4 by omega, ← hnews]; exact hu)
    have s1 : Hid (news.length = (l.length - (i + 1)) * 4) := hnl
    have s2 : Hid (∀ u ∈ news, u.oneCell' = true) := fun u hu => flat_oneC l u (by rw [hnews] at hu; exact List.mem_of_mem_drop hu)
    have s3 : Hid (∀ t, t < news.length → (w.drew.cell? ⟨g, 0 + i * 4 + t, none⟩).isSome = true ∧ w.drew.frozen? ⟨g, 0 + i * 4 + t, none⟩ = false) := fun t ht => hin _ (by rw [hnl] at ht; omega)
    obtain ⟨W1, hW1⟩ : ∃ W1, W1 = w.drew.setCells g (0 + i * 4) news := ⟨_, rfl⟩
    obtain ⟨R1, hR1⟩ : ∃ R1, R1 = cur.toList.take (i * 4) ++ (l.flatMap cellsC).drop (i * 4 + 4) ++ cur.toList.drop (i * 4 + ((l.flatMap cellsC).drop (i * 4 + 4)).length) := ⟨_, rfl⟩
    have hR1l : R1.length = cap * 4 := by rw [hR1]; simp only [List.length_append, List.length_take, List.length_drop, hcl, hflen]; omega
    have hW1' : W1 = w.drew.setRow g R1.toArray := by
      rw [hW1, Nat.zero_add, setCells_row g 32 news (i * 4) cur w.drew hg (by rw [hnl, hsz]; omega), hR1, hnews]
    have hg1 : W1.heap[g]? = some (.cells R1.toArray 32 (0, 0)) := by rw [hW1']; exact setRow_heap w.drew g cur _ _ _ hg
    have hone : l.length - (i + (l.length - (i + 1))) = 1 := by omega
    have hoff : (i + (l.length - (i + 1))) * 4 = l.length * 4 - 4 := by omega
    have hcl1 : ∀ ty, (Builtin.clear_ #[29] ty #[.slice (some ⟨g, (i + (l.length - (i + 1))) * 4, none⟩) (l.length - (i + (l.length - (i + 1)))) (cap - (i + (l.length - (i + 1))))]).run Tryz.prog W1 = .ok (.tuple #[]) (W1.setCells g (l.length * 4 - 4) zlC) := fun ty => by
      rw [hone, hoff]
      exact run_clear_one W1 _ 32 ty (.agg zlC.toArray) zlC rfl Tryz.underlying29 (fun w => by kernel_rfl) (by decide) g (l.length * 4 - 4) _ (fun j hj => by
        have hj4 : j < 4 := hj
        rw [cell_of_row W1 g _ _ _ (0, 0) hg1, Array.getElem?_eq_getElem (by rw [List.size_toArray, hR1l]; omega)]; rfl) (fun j hj => by simp [World.frozen?, hg1])
    have HFIN : Hid ((W1.setCells g (l.length * 4 - 4) zlC).ownsRow B 32 4 (.slice (some ⟨g, 0, none⟩) (i + (l.length - (i + 1))) cap) (i + (l.length - (i + 1))) ((l.take i ++ l.drop (i + 1)).flatMap cellsC) ∧ Below B w (W1.setCells g (l.length * 4 - 4) zlC) ∧ (∀ k, g ≠ k → (W1.setCells g (l.length * 4 - 4) zlC).heap[k]? = w.heap[k]?)) := by
      have hzl : zlC.length = 4 := rfl
      rw [setCells_row g 32 zlC (l.length * 4 - 4) R1.toArray W1 hg1 (by rw [hzl, List.size_toArray, hR1l]; omega)]
      refine ⟨?_, ?_, fun k hk => by rw [hW1', setRow_other _ g k _ (Ne.symm hk), setRow_other _ g k _ (Ne.symm hk)]; rfl⟩
      · have hfl : ((l.take i ++ l.drop (i + 1)).flatMap cellsC).length = (i + (l.length - (i + 1))) * 4 := by
          rw [flat_len _ _ cellsC_len _, List.length_append, List.length_take, List.length_drop]; omega
        refine owns_setRow hg1 hB (by omega) hm ?_ hfl ?_
        · rw [hR1]
          show (List.take _ _ ++ _ ++ List.drop _ _).length = _
          rw [seg_del_len (i * 4) (l.length * 4) 4 cur.toList (l.flatMap cellsC) zlC (by omega) htk (by rw [hcl]; omega) hzl, hcl]
        · rw [hoff, hR1]
          show List.take _ (List.take _ _ ++ _ ++ List.drop _ _) = _
          rw [seg_del (i * 4) (l.length * 4) 4 cur.toList (l.flatMap cellsC) zlC (by omega) htk (by rw [hcl]; omega) hzl, (flat_cutC l i).1, show i * 4 + 4 = (i + 1) * 4 by omega, (flat_cutC l (i + 1)).2, List.flatMap_append]
      · rw [hW1']
        exact below_setRow (below_setRow (Below.refl _ _).drew hB _) hB _
    have hW : Hid (W1 = w.drew.setCells g (0 + i * 4) news) := hW1
    have hlen : Hid ((l.take i ++ l.drop (i + 1)).length = i + (l.length - (i + 1))) := by show _ = _; rw [List.length_append, List.length_take, List.length_drop]; omega
    unfold maxLen at hm
    have hie : ¬ ((i : Int) = (i : Int) + 1) := by omega
    have hie2 : ((i : Int) == (i : Int) + 1) = false := by rw [beq_eq_false_iff_ne]; exact hie
    have hb1 : (0 : Int) ≤ (i : Int) + 1 := by omega
    have htn : ((i : Int) + 1).toNat = i + 1 := by omega
    have hb2 : (i : Int) + 1 ≤ (l.length : Int) := by omega
    have hb3 : i ≤ cap := by omega
    have hb4 : i + 1 ≤ cap := by omega
    have hb6 : ¬ (cap = i + (l.length - (i + 1))) := by omega
    have hb7 : i + (l.length - (i + 1)) ≤ l.length := by omega
    have mixed : Tryz.prog.follows Departure.mixedOrders = true := by kernel_rfl
    clear hW1 hW1' hg1 hR1 hR1l hin hnews hnl hcl hflen hsz htk hg hone hoff hi
    go_enter Tryz.func80, Tryz.ntmps80
    go_wp2_with fail
    go_region_law_o (refine step_append_room rfl (.tmp 22) (.tmp 25) 29 rfl 32 i0 4 Tryz.underlying29 hi0 hz1 g 0 i cap (by simp [Act.eval, Act.put]) A (l.length - (i + 1)) (cap - (i + 1)) news (by simp [Act.eval, Act.put]) s1.out hsrc.out s2.out (by omega) s3.out ?_; rw [← hW.out])
    go_wp2
    go_ret
    refine ⟨_, rfl, ?_, HFIN.out.2.1, fun k hk => HFIN.out.2.2 k (fun h => hk (by rw [← h]; rfl)), HFIN.out.2.1.size, rfl⟩
    show World.ownsRow _ _ _ _ _ _ _
    rw [hlen.out]
    exact HFIN.out.1
end Go.Proofs.YtdgcdekgleegbaaGreat
/- The contract of mayStand, at a leaf's cells. -/
namespace Go.Proofs.YtdgcdekgleegbaaGreat
open Go.RowKit
open Sl (Cl Kd)
theorem op_less : ∀ x y : List UInt8, Op.bytesLess x y = Sl.less x y
  | [], [] => rfl
  | [], _ :: _ => rfl
  | _ :: _, [] => rfl
  | a :: x, b :: y => by rw [Op.bytesLess, Sl.less, op_less x y]
theorem bl (a b : List UInt8) : Op.bytesLess (str a).toList (str b).toList = Sl.less a b := by
  rw [Lib.toList_data, Lib.toList_data, op_less]; rfl
theorem elemC {w w1 : World} {x0 x1 x2 x3 : Value} {T : TypeId} (hb : Below (w.alloc (.cells #[x0, x1, x2, x3] T)).heap.size (w.alloc (.cells #[x0, x1, x2, x3] T)) w1) :
    w1.cell? ⟨w.heap.size, 0, none⟩ = some x0 ∧ w1.cell? ⟨w.heap.size, 1, none⟩ = some x1 ∧ w1.cell? ⟨w.heap.size, 2, none⟩ = some x2 ∧ w1.cell? ⟨w.heap.size, 3, none⟩ = some x3 :=
  ⟨(hb.cell (p := ⟨w.heap.size, 0, none⟩) (by simp)).trans (by simp), (hb.cell (p := ⟨w.heap.size, 1, none⟩) (by simp)).trans (by simp), (hb.cell (p := ⟨w.heap.size, 2, none⟩) (by simp)).trans (by simp), (hb.cell (p := ⟨w.heap.size, 3, none⟩) (by simp)).trans (by simp)⟩
set_option maxHeartbeats 4000000 in
set_option maxRecDepth 100000 in
theorem mayC_any (v : Value) (l : List Cl) (hll : l.length ≤ 100000) (w : World) (hv : SlC w v l) :
    Calls Tryz.prog 90 #[shpC, v] w fun e w' => e = .returned (.int .i64 (Sl.right Sl.shC l)) ∧ Below w.heap.size w w' := by
  have HV := Lib.hid hv
  obtain ⟨a, b, o, c, rfl, ha, hx⟩ := hv
  have HX := Lib.hid hx
  have HA := Lib.hid ha
  clear ha hx
  have hn1 : ∀ w, (binOp .neq 115 (.func (.func 87) #[] #[]) .nilFunc).run Tryz.prog w = .ok (.bool true) w := fun w => by kernel_rfl
  unfold shpC
  have HB0 := Lib.hid (BxC.new w)
  go_enter Tryz.func90, Tryz.ntmps90
  go_wp2
  have HW0 : Hid (Below w.heap.size w (w.alloc (.cells #[.func (.func 84) #[] #[], .func (.func 85) #[] #[], .func (.func 86) #[] #[], .func (.func 87) #[] #[]] 117))) := (Below.refl _ _).alloc (Nat.le_refl _) _
  revert HB0 HW0
  generalize (w.alloc (.cells #[.func (.func 84) #[] #[], .func (.func 85) #[] #[], .func (.func 86) #[] #[], .func (.func 87) #[] #[]] 117)) = w2
  generalize hg : w.heap.size = g
  have HG := Lib.hid hg
  clear hg
  intro HB0 HW0
  go_loopg [10] l.length (fun n i wr => ∃ k : Nat, k ≤ l.length ∧ n = l.length - k ∧ i = .int .i64 k ∧ Hid ((l.take k).any (Sl.long Sl.shC) = false) ∧ Hid (Below (g + 1) w2 wr))
  case atStart => exact ⟨0, Nat.zero_le _, rfl, rfl, rfl, Below.refl _ _⟩
  case round =>
    obtain ⟨k, hk, rfl, rfl, HM, HB⟩ := hrel
    by_cases hlt : k < l.length
    · obtain ⟨x, hx⟩ := take_some l k hlt
      have HXK := Lib.hid hx
      obtain ⟨e0, e1, e2, e3⟩ := HX.out k x hx
      have hblt : b < g := by have h1 := World.block_lt_of_cell? _ _ e0; rw [HG.out] at h1; exact h1
      have HWr := Lib.hid (HW0.out.trans (HB.out.mono (Nat.le_succ g)))
      have d0 := (HWr.out.cell (p := ⟨b, o + k * 4, none⟩) hblt).trans e0
      have d1 := (HWr.out.cell (p := ⟨b, o + k * 4 + 1, none⟩) hblt).trans e1
      have d2 := (HWr.out.cell (p := ⟨b, o + k * 4 + 2, none⟩) hblt).trans e2
      have d3 := (HWr.out.cell (p := ⟨b, o + k * 4 + 3, none⟩) hblt).trans e3
      have HR := Lib.hid (HB0.out.below HB.out (Nat.lt_succ_self g))
      have q0 := fun o1 => (HR.out.alloc o1).c0
      have q1 := fun o1 => (HR.out.alloc o1).c1
      have q2 := fun o1 => (HR.out.alloc o1).c2
      have q3 := fun o1 => (HR.out.alloc o1).c3
      obtain rfl : a = some ⟨b, o, none⟩ := by
        rcases HA.out with h | h
        · rw [h] at hlt; cases hlt
        · exact h
      have HK := Lib.hid (fun W => keyC2_any x W)
      unfold shpC aggC at HK
      have hs := str_size (Sl.shC.key x)
      clear e0 e1 e2 e3 hx
      revert HK hs
      generalize hky : Sl.shC.key x = ky
      have HKY := Lib.hid hky
      clear hky
      intro HK hs
      by_cases hA : 255 < ky.length
      · have HL : Hid (Sl.right Sl.shC l = 5) := Sl.right_long Sl.shC l k x HXK.out (by unfold Sl.long; rw [HKY.out, decide_eq_true hA]; rfl)
        have hA' : (255 : Int) < ky.length := by omega
        go_wp2_with (go_at_call 119; refine (HK.out _).mono ?_; rintro e w4 ⟨rfl, hb4⟩)
        have HB4 : Hid (Below (g + 1) w2 w4) := (HB.out.alloc (by have := HR.out.lt; omega) _).trans (hb4.mono (by have := HR.out.lt; simp; omega))
        go_ret
        refine ⟨ret_int HL.out.symm, ?_⟩
        rw [HG.out]
        exact HW0.out.trans (HB4.out.mono (Nat.le_succ g))
      · have hA' : ¬ (255 : Int) < ky.length := by omega
        have HF := Lib.hid (fun W => fitsC_any x W)
        unfold aggC at HF
        by_cases hf : Sl.fitsC x = true
        · have HLX : Hid (Sl.long Sl.shC x = false) := by show _ = _; unfold Sl.long; rw [HKY.out, decide_eq_false hA]; show (!(Sl.fitsC x)) = false; rw [hf]; rfl
          have HN := Lib.hid (Sl.any_snoc Sl.shC l k x HXK.out HM.out HLX.out)
          rw [hf] at HF
          clear hf
          go_wp2_with (first
            | (go_at_call 119; refine (HK.out _).mono ?_; rintro e w4 ⟨rfl, hb4⟩; have HR4 := Lib.hid ((HR.out.alloc (.cells #[.string (str x.key), .string (str x.val), .int .u32 x.chain, .int .u32 x.long] 32)).below hb4 (by have := HR.out.lt; simp; omega)); have r3 := HR4.out.c3; obtain ⟨f0, f1, f2, f3⟩ := elemC hb4)
            | (go_at_call 87; refine (HF.out _).mono ?_; rintro e w5 ⟨rfl, hb5⟩))
          have HB4 : Hid (Below (g + 1) w2 w5) := ((HB.out.alloc (by have := HR.out.lt; omega) _).trans (hb4.mono (by have := HR.out.lt; simp; omega))).trans (hb5.mono (by have h1 := HR.out.lt; have h2 := hb4.size; simp at h2; omega))
          clear hb4 hb5
          go_roundg (l.length - (k + 1))
          case measure => omega
          case rel => exact ⟨k + 1, by omega, rfl, by go_num, HN, HB4⟩
        · have hf' : Sl.fitsC x = false := by simpa using hf
          have HL : Hid (Sl.right Sl.shC l = 5) := Sl.right_long Sl.shC l k x HXK.out (by unfold Sl.long; rw [HKY.out, decide_eq_false hA]; show (!(Sl.fitsC x)) = true; rw [hf']; rfl)
          rw [hf'] at HF
          clear hf hf'
          go_wp2_with (first
            | (go_at_call 119; refine (HK.out _).mono ?_; rintro e w4 ⟨rfl, hb4⟩; have HR4 := Lib.hid ((HR.out.alloc (.cells #[.string (str x.key), .string (str x.val), .int .u32 x.chain, .int .u32 x.long] 32)).below hb4 (by have := HR.out.lt; simp; omega)); have r3 := HR4.out.c3; obtain ⟨f0, f1, f2, f3⟩ := elemC hb4)
            | (go_at_call 87; refine (HF.out _).mono ?_; rintro e w5 ⟨rfl, hb5⟩))
          have HB4 : Hid (Below (g + 1) w2 w5) := ((HB.out.alloc (by have := HR.out.lt; omega) _).trans (hb4.mono (by have := HR.out.lt; simp; omega))).trans (hb5.mono (by have h1 := HR.out.lt; have h2 := hb4.size; simp at h2; omega))
          go_ret
          refine ⟨ret_int HL.out.symm, ?_⟩
          rw [HG.out]
          exact HW0.out.trans (HB4.out.mono (Nat.le_succ g))
    · obtain rfl : k = l.length := by omega
      rw [List.take_length] at HM
      obtain ⟨wo, rfl⟩ : ∃ wo : World, wo = wr := ⟨_, rfl⟩
      have HBO := Lib.hid HB.out
      clear HB
      go_wp2
      go_loopg [35] l.length (fun n i wr => ∃ k : Nat, k ≤ l.length - 1 ∧ n = l.length - k ∧ i = .int .i64 k ∧ Hid (∀ j a b, j < k → l[j]? = some a → l[j + 1]? = some b → Sl.less (Sl.shC.key a) (Sl.shC.key b) = true) ∧ Hid (Below (g + 1) w2 wr))
      case atStart => exact ⟨0, Nat.zero_le _, rfl, rfl, fun j a b hj => absurd hj (Nat.not_lt_zero j), HBO.out⟩
      case round =>
        obtain ⟨k, hk', rfl, rfl, HN, HB⟩ := hrel
        by_cases hlt1 : k + 1 < l.length
        · obtain ⟨x, hx⟩ := take_some l k (by omega)
          obtain ⟨y, hy⟩ := take_some l (k + 1) hlt1
          have HXK := Lib.hid hx
          have HYK := Lib.hid hy
          obtain ⟨e0, e1, e2, e3⟩ := HX.out k x hx
          obtain ⟨f0, f1, f2, f3⟩ := HX.out (k + 1) y hy
          have hblt : b < g := by have h1 := World.block_lt_of_cell? _ _ e0; rw [HG.out] at h1; exact h1
          have HWr := Lib.hid (HW0.out.trans (HB.out.mono (Nat.le_succ g)))
          have d0 := (HWr.out.cell (p := ⟨b, o + k * 4, none⟩) hblt).trans e0
          have d1 := (HWr.out.cell (p := ⟨b, o + k * 4 + 1, none⟩) hblt).trans e1
          have d2 := (HWr.out.cell (p := ⟨b, o + k * 4 + 2, none⟩) hblt).trans e2
          have d3 := (HWr.out.cell (p := ⟨b, o + k * 4 + 3, none⟩) hblt).trans e3
          have g0 := (HWr.out.cell (p := ⟨b, o + (k + 1) * 4, none⟩) hblt).trans f0
          have g1 := (HWr.out.cell (p := ⟨b, o + (k + 1) * 4 + 1, none⟩) hblt).trans f1
          have g2 := (HWr.out.cell (p := ⟨b, o + (k + 1) * 4 + 2, none⟩) hblt).trans f2
          have g3 := (HWr.out.cell (p := ⟨b, o + (k + 1) * 4 + 3, none⟩) hblt).trans f3
          have HR := Lib.hid (HB0.out.below HB.out (Nat.lt_succ_self g))
          obtain rfl : a = some ⟨b, o, none⟩ := by
            rcases HA.out with h | h
            · rw [h] at hlt1; cases hlt1
            · exact h
          have hF : Hid (wr.drew.cell? ⟨g, 0, none⟩ = some (.func (.func 84) #[] #[]) ∧ wr.drew.cell? ⟨g, 1, none⟩ = some (.func (.func 85) #[] #[]) ∧ wr.drew.cell? ⟨g, 2, none⟩ = some (.func (.func 86) #[] #[]) ∧ wr.drew.cell? ⟨g, 3, none⟩ = some (.func (.func 87) #[] #[]) ∧ wr.drew.cell? ⟨b, o + k * 4, none⟩ = some (.string (str x.key)) ∧ wr.drew.cell? ⟨b, o + k * 4 + 1, none⟩ = some (.string (str x.val)) ∧ wr.drew.cell? ⟨b, o + k * 4 + 2, none⟩ = some (.int .u32 x.chain) ∧ wr.drew.cell? ⟨b, o + k * 4 + 3, none⟩ = some (.int .u32 x.long) ∧ wr.drew.cell? ⟨b, o + (k + 1) * 4, none⟩ = some (.string (str y.key)) ∧ wr.drew.cell? ⟨b, o + (k + 1) * 4 + 1, none⟩ = some (.string (str y.val)) ∧ wr.drew.cell? ⟨b, o + (k + 1) * 4 + 2, none⟩ = some (.int .u32 y.chain) ∧ wr.drew.cell? ⟨b, o + (k + 1) * 4 + 3, none⟩ = some (.int .u32 y.long) ∧ Below (g + 1) w2 wr.drew) := ⟨HR.out.c0, HR.out.c1, HR.out.c2, HR.out.c3, d0, d1, d2, d3, g0, g1, g2, g3, HB.out.drew⟩
          have hg2 := HB0.out.lt
          have HX1 := Lib.hid (fun W => keyC2_any x W)
          have HX2 := Lib.hid (fun W => keyC2_any y W)
          unfold shpC aggC at HX1 HX2
          clear e0 e1 e2 e3 f0 f1 f2 f3 d0 g0 d1 g1 d2 g2 d3 g3 hx hy
          have hwr : IntKind.i64.wrap ((k : Int) + 1) = (k : Int) + 1 := IntWalk.i64_in _ (by omega)
          have hk0 : (0 : Int) ≤ (k : Int) := by omega
          have hk1 : (k : Int) < l.length := by omega
          have hk2 : (0 : Int) ≤ (k : Int) + 1 := by omega
          have hk3 : (k : Int) + 1 < l.length := by omega
          have hk4 : ((k : Int) + 1).toNat = k + 1 := by omega
          have hlen : (k : Int) < (l.length : Int) - 1 := by omega
          cases hle : Sl.less (Sl.shC.key x) (Sl.shC.key y)
          · have hb1 : Op.bytesLess (str (Sl.shC.key x)).toList (str (Sl.shC.key y)).toList = false := (bl _ _).trans hle
            have HR30 : Hid (Sl.right Sl.shC l = 30) := Sl.right_drop Sl.shC l HM.out (Sl.rises_false Sl.shC l k x y HXK.out HYK.out hle)
            clear hle
            go_wp2_with fail
            go_region_held3 (fun w' => w'.cell? ⟨g, 0, none⟩ = some (.func (.func 84) #[] #[]) ∧ w'.cell? ⟨g, 1, none⟩ = some (.func (.func 85) #[] #[]) ∧ w'.cell? ⟨g, 2, none⟩ = some (.func (.func 86) #[] #[]) ∧ w'.cell? ⟨g, 3, none⟩ = some (.func (.func 87) #[] #[]) ∧ w'.cell? ⟨b, o + k * 4, none⟩ = some (.string (str x.key)) ∧ w'.cell? ⟨b, o + k * 4 + 1, none⟩ = some (.string (str x.val)) ∧ w'.cell? ⟨b, o + k * 4 + 2, none⟩ = some (.int .u32 x.chain) ∧ w'.cell? ⟨b, o + k * 4 + 3, none⟩ = some (.int .u32 x.long) ∧ w'.cell? ⟨b, o + (k + 1) * 4, none⟩ = some (.string (str y.key)) ∧ w'.cell? ⟨b, o + (k + 1) * 4 + 1, none⟩ = some (.string (str y.val)) ∧ w'.cell? ⟨b, o + (k + 1) * 4 + 2, none⟩ = some (.int .u32 y.chain) ∧ w'.cell? ⟨b, o + (k + 1) * 4 + 3, none⟩ = some (.int .u32 y.long) ∧ Below (g + 1) w2 w')
              ((first | assumption | exact step12 (Nat.succ_le_of_lt hg2) ‹_› hb | exact hF.out))
              (first
              | (go_at_call 119; with_reducible refine (HX1.out _).mono ?_; rintro e w4 ⟨rfl, hb⟩)
              | (go_at_call 119; with_reducible refine (HX2.out _).mono ?_; rintro e w4 ⟨rfl, hb⟩))
            rename_i hS
            have HB4 := Lib.hid hS.2.2.2.2.2.2.2.2.2.2.2.2
            go_wp2
            go_ret
            refine ⟨ret_int HR30.out.symm, ?_⟩
            rw [HG.out]
            exact HW0.out.trans (HB4.out.mono (Nat.le_succ g))
          · have hb1 : Op.bytesLess (str (Sl.shC.key x)).toList (str (Sl.shC.key y)).toList = true := (bl _ _).trans hle
            have HNN := Lib.hid (Sl.rises_upto Sl.shC l k x y HXK.out HYK.out hle HN.out)
            clear hle
            go_wp2_with fail
            go_region_held3 (fun w' => w'.cell? ⟨g, 0, none⟩ = some (.func (.func 84) #[] #[]) ∧ w'.cell? ⟨g, 1, none⟩ = some (.func (.func 85) #[] #[]) ∧ w'.cell? ⟨g, 2, none⟩ = some (.func (.func 86) #[] #[]) ∧ w'.cell? ⟨g, 3, none⟩ = some (.func (.func 87) #[] #[]) ∧ w'.cell? ⟨b, o + k * 4, none⟩ = some (.string (str x.key)) ∧ w'.cell? ⟨b, o + k * 4 + 1, none⟩ = some (.string (str x.val)) ∧ w'.cell? ⟨b, o + k * 4 + 2, none⟩ = some (.int .u32 x.chain) ∧ w'.cell? ⟨b, o + k * 4 + 3, none⟩ = some (.int .u32 x.long) ∧ w'.cell? ⟨b, o + (k + 1) * 4, none⟩ = some (.string (str y.key)) ∧ w'.cell? ⟨b, o + (k + 1) * 4 + 1, none⟩ = some (.string (str y.val)) ∧ w'.cell? ⟨b, o + (k + 1) * 4 + 2, none⟩ = some (.int .u32 y.chain) ∧ w'.cell? ⟨b, o + (k + 1) * 4 + 3, none⟩ = some (.int .u32 y.long) ∧ Below (g + 1) w2 w')
              ((first | assumption | exact step12 (Nat.succ_le_of_lt hg2) ‹_› hb | exact hF.out))
              (first
              | (go_at_call 119; with_reducible refine (HX1.out _).mono ?_; rintro e w4 ⟨rfl, hb⟩)
              | (go_at_call 119; with_reducible refine (HX2.out _).mono ?_; rintro e w4 ⟨rfl, hb⟩))
            rename_i hS
            have HB4 := Lib.hid hS.2.2.2.2.2.2.2.2.2.2.2.2
            clear hS hk4 hwr
            go_wp2
            go_roundg (l.length - (k + 1))
            case measure => omega
            case rel => exact ⟨k + 1, by omega, rfl, by go_num, HNN, HB4⟩
        · have hlen : ¬ (k : Int) < (l.length : Int) - 1 := by omega
          have HR0 : Hid (Sl.right Sl.shC l = 0) := Sl.right_ok Sl.shC l HM.out (Sl.rises_all Sl.shC l fun j a b hj => HN.out j a b (by omega))
          go_wp2
          go_ret
          refine ⟨ret_int HR0.out.symm, ?_⟩
          rw [HG.out]
          exact HW0.out.trans (HB.out.mono (Nat.le_succ g))
end Go.Proofs.YtdgcdekgleegbaaGreat
/- The library's contracts for strings.Builder, strings.Compare, laid at this program's numbers by the guide's own tool. -/
namespace Go.Proofs
open Go.Shelf
def Tryz.lays170_ren : Go.Shelf.Ren := ⟨fun | 170 => 94 | n => n, fun | 70 => 153 | 3 => 3 | 0 => 0 | 72 => 155 | 37 => 130 | 5 => 5 | n => n, fun | n => n⟩
theorem Tryz.lays170 : Go.Proofs.Lays.n170 Tryz.prog Tryz.lays170_ren := {
  mixed := by kernel_rfl
  f170 := Tryz.func94.trans (congrArg some (by kernel_rfl))
  t0 := Tryz.underlying0
  a0 := Tryz.isAgg0
  z0 := Tryz.sizeOf0
  v0 := Tryz.zeroValue0
  t3 := Tryz.underlying3
  a3 := Tryz.isAgg3
  z3 := Tryz.sizeOf3
  v3 := Tryz.zeroValue3
  t37 := Tryz.underlying130
  a37 := Tryz.isAgg130
  z37 := Tryz.sizeOf130
  v37 := Tryz.zeroValue130
  t70 := Tryz.underlying153
  a70 := Tryz.isAgg153
  z70 := Tryz.sizeOf153
  v70 := Tryz.zeroValue153
  t72 := Tryz.underlying155
  a72 := Tryz.isAgg155
  z72 := Tryz.sizeOf155
  v72 := Tryz.zeroValue155 }
open Go.RowKit in
theorem Tryz.Builder_Len (B b : Nat) (bs : List Value) (w : World) (h : Lib.IsBuilder 155 5 B b bs w) :
    Calls Tryz.prog 94 #[.pointer (some ⟨b, 0, none⟩)] w fun e w' => e = .returned (.int .i64 bs.length) ∧ w' = w := Any.Builder_Len Tryz.lays170 B b bs w h
def Tryz.lays169_ren : Go.Shelf.Ren := ⟨fun | 169 => 97 | n => n, fun | 70 => 153 | 9 => 9 | 0 => 0 | 72 => 155 | 37 => 130 | 127 => 202 | 3 => 3 | 5 => 5 | n => n, fun | n => n⟩
theorem Tryz.lays169 : Go.Proofs.Lays.n169 Tryz.prog Tryz.lays169_ren := {
  mixed := by kernel_rfl
  f169 := Tryz.func97.trans (congrArg some (by kernel_rfl))
  t0 := Tryz.underlying0
  a0 := Tryz.isAgg0
  z0 := Tryz.sizeOf0
  v0 := Tryz.zeroValue0
  t3 := Tryz.underlying3
  a3 := Tryz.isAgg3
  z3 := Tryz.sizeOf3
  v3 := Tryz.zeroValue3
  t9 := Tryz.underlying9
  a9 := Tryz.isAgg9
  z9 := Tryz.sizeOf9
  v9 := Tryz.zeroValue9
  t37 := Tryz.underlying130
  a37 := Tryz.isAgg130
  z37 := Tryz.sizeOf130
  v37 := Tryz.zeroValue130
  t70 := Tryz.underlying153
  a70 := Tryz.isAgg153
  z70 := Tryz.sizeOf153
  v70 := Tryz.zeroValue153
  t72 := Tryz.underlying155
  a72 := Tryz.isAgg155
  z72 := Tryz.sizeOf155
  v72 := Tryz.zeroValue155
  t127 := Tryz.underlying202
  a127 := Tryz.isAgg202
  z127 := Tryz.sizeOf202
  v127 := Tryz.zeroValue202 }
theorem Tryz.Builder_Extra_169 : Builder.Extra Tryz.prog Tryz.lays169_ren := {
  sizeBuilder := by kernel_rfl
  liesBuilder := by kernel_rfl
  t5 := Tryz.underlying5
  a5 := Tryz.isAgg5
  z5 := Tryz.sizeOf5
  v5 := Tryz.zeroValue5
  infoByte := by kernel_rfl
  cellsByte := by kernel_rfl
  sizeByte := by kernel_rfl
  neB5 := by decide }
open Go.RowKit in
theorem Tryz.Builder_String (B b : Nat) (l : List UInt8) (w : World) (h : Lib.IsBuilder 155 5 B b (Lib.byteCells l) w) (h0 : l ≠ []) :
    Calls Tryz.prog 97 #[.pointer (some ⟨b, 0, none⟩)] w fun e w' => e = .returned (.string ⟨l.toArray⟩) ∧ Below B w w' := Any.Builder_String Tryz.lays169 Tryz.Builder_Extra_169 B b l w h h0
open Go.RowKit in
theorem Tryz.Builder_String_empty (B b : Nat) (w : World) (h : Lib.IsBuilder 155 5 B b [] w) (hBw : B ≤ w.heap.size) :
    Calls Tryz.prog 97 #[.pointer (some ⟨b, 0, none⟩)] w fun e w' => e = .returned (.string ⟨#[]⟩) ∧ Below B w w' := Any.Builder_String_empty Tryz.lays169 Tryz.Builder_Extra_169 B b w h hBw
open Go.RowKit in
theorem Tryz.Builder_String_any (B b : Nat) (l : List UInt8) (w : World) (h : Lib.IsBuilder 155 5 B b (Lib.byteCells l) w) (hBw : B ≤ w.heap.size) :
    Calls Tryz.prog 97 #[.pointer (some ⟨b, 0, none⟩)] w fun e w' => e = .returned (.string ⟨l.toArray⟩) ∧ Below B w w' := Any.Builder_String_any Tryz.lays169 Tryz.Builder_Extra_169 B b l w h hBw
def Tryz.lays213_ren : Go.Shelf.Ren := ⟨fun | 213 => 153 | 265 => 176 | n => n, fun | 9 => 9 | 3 => 3 | n => n, fun | n => n⟩
theorem Tryz.lays213 : Go.Proofs.Lays.n213 Tryz.prog Tryz.lays213_ren := {
  mixed := by kernel_rfl
  f213 := Tryz.func153.trans (congrArg some (by kernel_rfl))
  f265 := Tryz.func176.trans (congrArg some (by kernel_rfl))
  t3 := Tryz.underlying3
  a3 := Tryz.isAgg3
  z3 := Tryz.sizeOf3
  v3 := Tryz.zeroValue3
  t9 := Tryz.underlying9
  a9 := Tryz.isAgg9
  z9 := Tryz.sizeOf9
  v9 := Tryz.zeroValue9 }
open Go.RowKit in
theorem Tryz.bytealg_CompareString (a b : ByteArray) (w : World) :
    Calls Tryz.prog 153 #[.string a, .string b] w fun e w' => e = .returned (.int .i64 (Lib.compareBytes a.data.toList b.data.toList)) ∧ w' = w := Any.bytealg_CompareString Tryz.lays213 a b w
def Tryz.lays106_ren : Go.Shelf.Ren := ⟨fun | 106 => 118 | 213 => 153 | 265 => 176 | n => n, fun | 9 => 9 | 3 => 3 | n => n, fun | n => n⟩
theorem Tryz.lays106 : Go.Proofs.Lays.n106 Tryz.prog Tryz.lays106_ren := {
  mixed := by kernel_rfl
  f106 := Tryz.func118.trans (congrArg some (by kernel_rfl))
  f213 := Tryz.func153.trans (congrArg some (by kernel_rfl))
  f265 := Tryz.func176.trans (congrArg some (by kernel_rfl))
  t3 := Tryz.underlying3
  a3 := Tryz.isAgg3
  z3 := Tryz.sizeOf3
  v3 := Tryz.zeroValue3
  t9 := Tryz.underlying9
  a9 := Tryz.isAgg9
  z9 := Tryz.sizeOf9
  v9 := Tryz.zeroValue9 }
open Go.RowKit in
theorem Tryz.strings_Compare (a b : ByteArray) (w : World) :
    Calls Tryz.prog 118 #[.string a, .string b] w fun e w' => e = .returned (.int .i64 (Lib.compareBytes a.data.toList b.data.toList)) ∧ w' = w := Any.strings_Compare Tryz.lays106 a b w
end Go.Proofs
/- Where a key is in a row of cells; nothing of the program. -/
namespace Go.Proofs.YtdgcdekgleegbaaGreat
namespace Sl
variable {α : Type}
theorem less_trans : ∀ x y z : List UInt8, less x y = true → less y z = true → less x z = true
  | [], _, [], _, h => by rw [less_nil] at h; cases h
  | [], _, _ :: _, _, _ => rfl
  | _ :: _, [], _, h, _ => by cases h
  | _ :: _, _ :: _, [], _, h => by cases h
  | a :: x, b :: y, c :: z, h, k => by
    simp only [less, Bool.or_eq_true, decide_eq_true_eq, Bool.and_eq_true, beq_iff_eq] at h k ⊢
    rcases h with h | ⟨rfl, h⟩
    · rcases k with k | ⟨rfl, k⟩
      · left; rw [UInt8.lt_iff_toNat_lt] at *; omega
      · exact .inl h
    · rcases k with k | ⟨rfl, k⟩
      · exact .inl k
      · exact .inr ⟨rfl, less_trans x y z h k⟩
theorem cmp_pos : ∀ x y : List UInt8, less x y = true → Lib.compareBytes x y = -1
  | [], [], h => by cases h
  | [], _ :: _, _ => rfl
  | _ :: _, [], h => by cases h
  | a :: x, b :: y, h => by
    simp only [less, Bool.or_eq_true, decide_eq_true_eq, Bool.and_eq_true, beq_iff_eq] at h
    rw [Lib.compareBytes]
    rcases h with h | ⟨rfl, h⟩
    · rw [if_pos h]
    · rw [if_neg (u8_irr a), if_neg (u8_irr a)]; exact cmp_pos x y h
theorem cmp_self : ∀ x : List UInt8, Lib.compareBytes x x = 0
  | [] => rfl
  | a :: x => by rw [Lib.compareBytes, if_neg (u8_irr a), if_neg (u8_irr a)]; exact cmp_self x
theorem cmp_neg : ∀ x y : List UInt8, less y x = true → Lib.compareBytes x y = 1
  | [], [], h => by cases h
  | [], _ :: _, h => by cases h
  | _ :: _, [], _ => rfl
  | a :: x, b :: y, h => by
    simp only [less, Bool.or_eq_true, decide_eq_true_eq, Bool.and_eq_true, beq_iff_eq] at h
    rw [Lib.compareBytes]
    rcases h with h | ⟨rfl, h⟩
    · rw [if_neg (fun h2 => by rw [UInt8.lt_iff_toNat_lt] at h h2; omega), if_pos h]
    · rw [if_neg (u8_irr b), if_neg (u8_irr b)]; exact cmp_neg x y h
theorem cmp_lt (x y : List UInt8) (h : less x y = true) : Lib.compareBytes x y < 0 := by rw [cmp_pos x y h]; decide
theorem cmp_ge (x y : List UInt8) (h : less x y = false) : ¬ Lib.compareBytes x y < 0 := by
  cases k : less y x
  · rw [less_tri x y h k, cmp_self]; decide
  · rw [cmp_neg x y k]; decide
theorem cmp_zero (x y : List UInt8) : (Lib.compareBytes x y == 0) = decide (x = y) := by
  by_cases h : x = y
  · subst h; rw [cmp_self]; simp
  · rw [decide_eq_false h]
    cases k : less x y
    · cases m : less y x
      · exact absurd (less_tri x y k m) h
      · rw [cmp_neg x y m]; rfl
    · rw [cmp_pos x y k]; rfl
def place (S : Sh α) (l : List α) (k : List UInt8) : Nat := (l.takeWhile fun x => less (S.key x) k).length
def there (S : Sh α) (l : List α) (k : List UInt8) : Bool := match l[place S l k]? with
  | some x => decide (S.key x = k)
  | none => false
theorem place_eq (S : Sh α) (k : List UInt8) : ∀ (l : List α) (i : Nat), i ≤ l.length → (∀ m x, m < i → l[m]? = some x → less (S.key x) k = true) → (∀ x, l[i]? = some x → less (S.key x) k = false) → place S l k = i
  | [], i, hi, _, _ => by
    have : i = 0 := by simpa using hi
    subst this; rfl
  | x :: l, 0, _, _, h2 => by
    have := h2 x rfl
    unfold place
    rw [List.takeWhile_cons, this]; rfl
  | x :: l, i + 1, hi, h1, h2 => by
    have hx := h1 0 x (Nat.succ_pos _) rfl
    have ih := place_eq S k l i (by simpa using hi) (fun m y hm hy => h1 (m + 1) y (by omega) (by simpa using hy)) (fun y hy => h2 y (by simpa using hy))
    unfold place at ih ⊢
    rw [List.takeWhile_cons, hx, if_pos rfl, List.length_cons, ih]
theorem place_le (S : Sh α) (l : List α) (k : List UInt8) : place S l k ≤ l.length := (List.takeWhile_prefix _).length_le
theorem there_some (S : Sh α) (l : List α) (k : List UInt8) (x : α) (h : l[place S l k]? = some x) : there S l k = decide (S.key x = k) := by
  unfold there; rw [h]
theorem there_none (S : Sh α) (l : List α) (k : List UInt8) (h : l.length ≤ place S l k) : there S l k = false := by
  unfold there; rw [List.getElem?_eq_none h]
theorem rises_pair (S : Sh α) (l : List α) (h : rises S l = true) : ∀ (d m : Nat) (a b : α), l[m]? = some a → l[m + d + 1]? = some b → less (S.key a) (S.key b) = true
  | 0, m, a, b, ha, hb => (rises_iff S l).1 h m a b ha hb
  | d + 1, m, a, b, ha, hb => by
    have hlt := (List.getElem?_eq_some_iff.1 hb).1
    have hc : l[m + d + 1]? = some (l[m + d + 1]'(by omega)) := List.getElem?_eq_getElem _
    exact less_trans _ _ _ (rises_pair S l h d m a _ ha hc) ((rises_iff S l).1 h (m + d + 1) _ b hc hb)
theorem rises_lt (S : Sh α) (l : List α) (h : rises S l = true) (m n : Nat) (a b : α) (hmn : m < n) (ha : l[m]? = some a) (hb : l[n]? = some b) : less (S.key a) (S.key b) = true :=
  rises_pair S l h (n - m - 1) m a b ha (by rw [show m + (n - m - 1) + 1 = n by omega]; exact hb)
theorem low_of (S : Sh α) (l : List α) (k : List UInt8) (h : rises S l = true) (i : Nat) (x : α) (hx : l[i]? = some x) (hk : less (S.key x) k = true) : ∀ m y, m < i + 1 → l[m]? = some y → less (S.key y) k = true := by
  intro m y hm hy
  by_cases hmi : m = i
  · subst hmi; rw [hx] at hy; cases hy; exact hk
  · exact less_trans _ _ _ (rises_lt S l h m i y x (by omega) hy hx) hk
theorem high_of (S : Sh α) (l : List α) (k : List UInt8) (h : rises S l = true) (i : Nat) (x : α) (hx : l[i]? = some x) (hk : less (S.key x) k = false) : ∀ m y, i ≤ m → l[m]? = some y → less (S.key y) k = false := by
  intro m y hm hy
  by_cases hmi : m = i
  · subst hmi; rw [hx] at hy; cases hy; exact hk
  · cases hyk : less (S.key y) k
    · rfl
    · rw [less_trans _ _ _ (rises_lt S l h i m x y (by omega) hx hy) hyk] at hk; cases hk
end Sl
end Go.Proofs.YtdgcdekgleegbaaGreat
