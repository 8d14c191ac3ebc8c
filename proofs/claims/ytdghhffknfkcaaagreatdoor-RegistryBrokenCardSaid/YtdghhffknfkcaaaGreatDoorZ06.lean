/- Texts of one seat, merged. -/
import Derived.Test.YtdghhffknfkcaaaGreatDoorZ02
import Derived.Test.YtdghhffknfkcaaaGreatDoorZ05
import Derived.Deep.LoopGhost
import Derived.BigQuiet
import Derived.Deep.DeepCutAuto
import Derived.Deep.QuietTactic
import Derived.Deep.RegionWith
import Derived.Shelf.Slices.In.SortNone
import Derived.RangeFuncNested
import Derived.RangeFuncBound
import Derived.RangeFuncCalls
import Derived.RangeFuncLeaves
import Derived.RangeFuncBox
import Derived.Shelf.Abstract
import Derived.Shelf.RegionOpen
import Derived.WalkKit
import Derived.OwnWalkIn
import Derived.TacticsInMore
import Derived.LoopNIn
import Derived.LoopIn
import Derived.Sort.LoopGhostIn
import Derived.RangeFuncWrites
import Derived.Test.YtdghhffknfkcaaaGreatDoorZ01
import Derived.Maps.OwnSet
import Derived.StringKeys
set_option maxRecDepth 100000
set_option maxHeartbeats 4000000
set_option linter.unusedVariables false
/- The contract of slices.CompactFunc at texts, by 'same'. -/
namespace Go.Proofs.YtdghhffknfkcaaaGreatDoor
open Go.RowKit Go.Sort
theorem sizeS : ∀ w, (Go.sizeOf (Tryz.prog.elem 52)).run Tryz.prog w = .ok 1 w := fun w => by kernel_rfl
theorem zero_lenS (n : Nat) : (Builtin.zeroCells #[.string ⟨#[]⟩] n).toList.length = n := by simp [Builtin.zeroCells]
theorem zero_oneS (n : Nat) : ∀ v ∈ (Builtin.zeroCells #[.string ⟨#[]⟩] n).toList, v.oneCell' = true := by
  intro v hv
  simp only [Builtin.zeroCells, Array.toList_map, Array.toList_range] at hv
  obtain ⟨i, hi, rfl⟩ := List.mem_map.1 hv
  simp [Nat.mod_one, Value.oneCell']
/-- 'clear(s)', s of texts. -/
theorem run_clearS (w : World) (ty : TypeId) (b o n c : Nat) (hn : 0 < n) (hc : ∀ j, j < n → (w.cell? ⟨b, o + j, none⟩).isSome = true) (hf : ∀ j, j < n → w.frozen? ⟨b, o + j, none⟩ = false) :
    (Builtin.clear_ #[52] ty #[.slice (some ⟨b, o, none⟩) n c]).run Tryz.prog w = .ok (.tuple #[]) (w.setCells b o (Builtin.zeroCells #[.string ⟨#[]⟩] n).toList) := by
  have hst := run_storeCells_cells (P := Tryz.prog) b o (Builtin.zeroCells #[.string ⟨#[]⟩] n).toList 0 w (by rw [zero_lenS]; simpa using hc) (by rw [zero_lenS]; simpa using hf) (zero_oneS n)
  simp only [Nat.add_zero] at hst
  have hv : ∀ w, (zeroValue 9).run Tryz.prog w = .ok (.string ⟨#[]⟩) w := fun w => by kernel_rfl
  have hz : (Value.string ⟨#[]⟩).cells = #[.string ⟨#[]⟩] := rfl
  obtain ⟨n', rfl⟩ : ∃ m, n = m + 1 := ⟨n - 1, by omega⟩
  simp [Builtin.clear_, run_underlying Tryz.underlying52, hv, hz, hst]
theorem cutS_at (g n c q : Nat) (hq : q < c) (hqn : q ≤ n) : ∀ W, (Instr.sliceAt 52 (.slice (some ⟨g, 0, none⟩) n c) (some (.int .i64 (q : Int))) none none).run Tryz.prog W = .ok (.slice (some ⟨g, q, none⟩) (n - q) (c - q)) W := by
  intro W
  have hT : Tryz.prog.underlying 52 = some (.slice (Tryz.prog.elem 52)) := by kernel_rfl
  rw [run_sliceAt_slice (h := hT), run_slice_l (ht := hT) (h0 := by omega) (h1 := by omega), sizeS W]
  simp only [Result.andThen, sliced, Int.toNat_natCast]
  rw [if_neg (by omega)]
  simp only [Option.map_some, add_plain', Nat.zero_add, Nat.mul_one]
theorem cutS_head (g n c q : Nat) (hq : q ≤ n) (hc : n ≤ c) (h0 : 0 < c) : ∀ W, (Instr.sliceAt 52 (.slice (some ⟨g, 0, none⟩) n c) none (some (.int .i64 (q : Int))) none).run Tryz.prog W = .ok (.slice (some ⟨g, 0, none⟩) q c) W := by
  intro W
  have hT : Tryz.prog.underlying 52 = some (.slice (Tryz.prog.elem 52)) := by kernel_rfl
  rw [run_sliceAt_slice (h := hT), run_slice_h (ht := hT) (h0 := by omega) (h2 := by omega), sizeS W]
  simp only [Result.andThen, sliced, Int.toNat_natCast]
  rw [if_neg (by omega)]
  simp only [Option.map_some, add_plain', Nat.zero_add, Nat.zero_mul, Nat.sub_zero]
set_option maxHeartbeats 8000000 in
theorem sxCptF_any (v : Value) (m : List Txt) (hm : m.length ≤ 100000) (B : Nat) (w : World) (hB : B ≤ w.heap.size) (hr : RowS w B v m) :
    Calls Tryz.prog 65 #[v, .func (.func 66) #[] #[]] w fun e w' => ∃ v', e = .returned v' ∧ RowS w' B v' (Tx.cmpn m m.length) ∧ Below B w w' := by
  by_cases hs : m.length < 2
  · have hq : Tx.cmpn m m.length = m := by
      match m, hs with
      | [], _ => rfl
      | [x], _ => rfl
      | x :: y :: t, h => simp at h; omega
    rw [hq]
    have HSL := Lib.hid hr
    obtain ⟨a, c, rfl⟩ := hr.slice
    have hs' : (m.length : Int) < 2 := by omega
    clear hr
    go_enter Tryz.func65, Tryz.ntmps65
    go_wp2
    go_ret
    exact ⟨_, rfl, HSL.out, Below.refl _ _⟩
  · rcases hr.open with ⟨_, hz⟩ | ⟨g, cap, cur, rfl, hBg, hb, hc1, hc2, hc3, hc4⟩
    · rw [hz] at hs; simp at hs
    · have HR0 := Lib.hid hr
      have HBG := Lib.hid hBg
      have hs' : ¬ (m.length : Int) < 2 := by omega
      clear hr hb hc2 hc3 hc4 hBg
      go_enter Tryz.func65, Tryz.ntmps65
      go_wp2
      go_loopg [5] (m.length - 1) (fun n i wr => ∃ k : Nat, k + 1 ≤ m.length ∧ n = m.length - 1 - k ∧ i = .int .i64 ((k : Int) + 1) ∧ Hid (Tx.cmpn m (k + 1) = m.take (k + 1)) ∧ Hid (RowS wr B (.slice (some ⟨g, 0, none⟩) m.length cap) m) ∧ Hid (Below B w wr))
      case atStart => exact ⟨0, by omega, by omega, rfl, rfl, HR0.out, Below.refl _ _⟩
      case round =>
        obtain ⟨k, hk, rfl, rfl, HK, HR, HB⟩ := hrel
        by_cases hlt : k + 1 < m.length
        · obtain ⟨x, hx⟩ := some_atP (show k < m.length by omega)
          obtain ⟨y, hy⟩ := some_atP hlt
          have d0 := ((HR.out.cells rfl).2 k x hx).1
          have d2 := ((HR.out.cells rfl).2 (k + 1) y hy).1
          have hi : (k : Int) + 1 < (m.length : Int) := by omega
          have hi0 : (k : Int) < (m.length : Int) := by omega
          have hk0 : (0 : Int) ≤ (k : Int) := by omega
          have hk1 : (0 : Int) ≤ (k : Int) + 1 := by omega
          have hw1 : IntKind.i64.wrap ((k : Int) + 1 - 1) = (k : Int) := by rw [show (k : Int) + 1 - 1 = k by omega]; exact IntWalk.i64_in _ (by omega)
          have hw0 : IntKind.i64.wrap (k : Int) = (k : Int) := IntWalk.i64_in _ (by omega)
          have ht1 : ((k : Int) + 1).toNat = k + 1 := by omega
          have HS := Lib.hid (fun W => sxSame_any y x W)
          have HRd : Hid (RowS wr.drew B (.slice (some ⟨g, 0, none⟩) m.length cap) m) := HR.out.below (below_drewT (Below.refl _ _) 1)
          have HBd : Hid (Below B w wr.drew) := below_drewT HB.out 1
          by_cases hc : y = x
          · subst hc
            have HC1 := Lib.hid ((Tx.cmpn_same hy hx).trans HK.out)
            rw [decide_eq_true rfl] at HS
            clear hx hy
            obtain ⟨L2, hL2⟩ : ∃ L2, L2 = m.length - (k + 1) := ⟨_, rfl⟩
            have hkc : k + 1 < cap := Nat.lt_of_lt_of_le hlt hc1
            have hcut := cutS_at g m.length cap (k + 1) hkc (by omega)
            rw [← hL2, show ((k + 1 : Nat) : Int) = (k : Int) + 1 by omega] at hcut
            go_upto_region 6 with fail
            go_region_with (go_at_call 66; refine (HS.out _).mono ?_; rintro e w4 ⟨rfl, rfl⟩)
            all_goals
              go_wp2
              clear hcut d0 d2
              go_loopg [5, 7] (L2 - 1) (fun n cv iv wr2 => ∃ (i : Nat) (A : List Txt), i + 1 ≤ L2 ∧ n = L2 - 1 - i ∧ cv = .int .i64 (A.length : Nat) ∧ iv = .int .i64 ((i : Int) + 1) ∧ Hid (A = Tx.cmpn m (k + 1 + (i + 1))) ∧ Hid (A.length + 1 ≤ k + 1 + (i + 1)) ∧ Hid (RowS wr2 B (.slice (some ⟨g, 0, none⟩) m.length cap) (A ++ m.drop A.length)) ∧ Hid (Below B w wr2))
              case atStart =>
                have htl : (m.take (k + 1)).length = k + 1 := by rw [List.length_take]; omega
                refine ⟨0, m.take (k + 1), by omega, by omega, by rw [htl]; rfl, rfl, HC1.out.symm, by show _ ≤ _; rw [htl]; omega, ?_, HBd⟩
                show RowP _ _ _ _ _ _
                rw [htl, List.take_append_drop]
                exact HRd.out
              case round =>
                obtain ⟨i, A, hi2, rfl, rfl, rfl, HA, HAL, HR2, HB2⟩ := hrel
                have HRL : Hid ((A ++ m.drop A.length).length = m.length) := by have := HAL.out; show _ = _; rw [List.length_append, List.length_drop]; omega
                by_cases hlt2 : i + 1 < L2
                · obtain ⟨o, ho⟩ := some_atP (show k + 1 + i < m.length by omega)
                  obtain ⟨p, hp⟩ := some_atP (show k + 1 + (i + 1) < m.length by omega)
                  obtain ⟨z, hz⟩ := some_atP (show A.length < m.length by have := HAL.out; omega)
                  have d0 := ((HR2.out.cells rfl).2 _ _ ((rest_atP (by have := HAL.out; omega)).trans ho)).1
                  have d2 := ((HR2.out.cells rfl).2 _ _ ((rest_atP (by have := HAL.out; omega)).trans hp)).1
                  have d4 := ((HR2.out.cells rfl).2 _ _ ((rest_atP (Nat.le_refl _)).trans hz)).1
                  have f4 := ((HR2.out.cells rfl).2 _ _ ((rest_atP (Nat.le_refl _)).trans hz)).2
                  have hj : (i : Int) + 1 < (L2 : Int) := by omega
                  have hj0 : (i : Int) < (L2 : Int) := by omega
                  have hj1 : (0 : Int) ≤ (i : Int) := by omega
                  have hj2 : (0 : Int) ≤ (i : Int) + 1 := by omega
                  have hv1 : IntKind.i64.wrap ((i : Int) + 1 - 1) = (i : Int) := by rw [show (i : Int) + 1 - 1 = i by omega]; exact IntWalk.i64_in _ (by omega)
                  have hv0 : IntKind.i64.wrap (i : Int) = (i : Int) := IntWalk.i64_in _ (by omega)
                  have ht2 : ((i : Int) + 1).toNat = i + 1 := by omega
                  have hA0 : (0 : Int) ≤ (A.length : Int) := by omega
                  have hA1 : (A.length : Int) < (m.length : Int) := by have := HAL.out; omega
                  have HS2 := Lib.hid (fun W => sxSame_any p o W)
                  by_cases hc2 : p = o
                  · subst hc2
                    have HN := Lib.hid (HA.out.trans (Tx.cmpn_same hp ho).symm)
                    rw [decide_eq_true rfl] at HS2
                    have HRe : Hid (RowS wr.drew B (.slice (some ⟨g, 0, none⟩) m.length cap) (A ++ m.drop A.length)) := HR2.out.below (below_drewT (Below.refl _ _) 1)
                    have HBe : Hid (Below B w wr.drew) := below_drewT HB2.out 1
                    clear ho hp hz d4 f4
                    go_upto_region 11 with fail
                    go_region_with (go_at_call 66; refine (HS2.out _).mono ?_; rintro e w4 ⟨rfl, rfl⟩)
                    all_goals
                      go_wp2
                      go_roundg (L2 - 1 - (i + 1))
                      case measure => omega
                      case rel => exact ⟨i + 1, A, by omega, by omega, rfl, by go_num, HN, by have := HAL.out; show _ ≤ _; omega, HRe, HBe⟩
                  · have HN : Hid (A ++ [p] = Tx.cmpn m (k + 1 + (i + 1) + 1)) := by show _ = _; rw [HA.out]; exact (Tx.cmpn_next hp ho hc2).symm
                    rw [decide_eq_false hc2] at HS2
                    have HRe : Hid (RowS (wr.drew.setCell ⟨g, A.length, none⟩ (.string (str p))) B (.slice (some ⟨g, 0, none⟩) m.length cap) (A ++ [p] ++ m.drop (A ++ [p]).length)) := by
                      have h : RowS wr.drew B (.slice (some ⟨g, 0, none⟩) m.length cap) (A ++ m.drop A.length) := HR2.out.below (below_drewT (Below.refl _ _) 1)
                      rw [← HRL.out] at h
                      have h2 := RowP.set h A.length p
                      rw [List.length_set, HRL.out, set_restP (by have := HAL.out; omega)] at h2
                      exact h2
                    have HBe : Hid (Below B w (wr.drew.setCell ⟨g, A.length, none⟩ (.string (str p)))) := (below_drewT HB2.out 1).setCell (p := ⟨g, A.length, none⟩) HBG.out _
                    clear ho hp hz hc2
                    go_upto_region 11 with fail
                    go_region_with (go_at_call 66; refine (HS2.out _).mono ?_; rintro e w4 ⟨rfl, rfl⟩)
                    all_goals
                      go_wp2
                      go_roundg (L2 - 1 - (i + 1))
                      case measure => omega
                      case rel => exact ⟨i + 1, A ++ [p], by omega, by omega, by rw [List.length_append]; go_num, by go_num, HN, by have := HAL.out; show _ ≤ _; rw [List.length_append, List.length_singleton]; omega, HRe, HBe⟩
                · have hj : k + 1 + (i + 1) = m.length := by omega
                  have hAm : A.length < m.length := by have := HAL.out; omega
                  have hAc : A.length < cap := Nat.lt_of_lt_of_le hAm hc1
                  have HEND : Hid (A = Tx.cmpn m m.length) := by have h := HA.out; rw [hj] at h; exact h
                  obtain ⟨S, hS⟩ : ∃ S, S = m.drop A.length := ⟨_, rfl⟩
                  have hSl : S.length = m.length - A.length := by rw [hS, List.length_drop]
                  have hR4 := HR2.out
                  have hRl := HRL.out
                  rw [← hS] at hR4 hRl
                  obtain ⟨hcl1, hcl2, _, _⟩ := hR4.cleared hRl (Builtin.zeroCells #[.string ⟨#[]⟩] (m.length - A.length)).toList (by rw [zero_lenS, hSl])
                  have HCL := Lib.hid hcl1
                  have HCB := Lib.hid (HB2.out.trans hcl2)
                  have hcl := fun (ty : TypeId) => run_clearS wr ty g A.length (m.length - A.length) (cap - A.length) (by omega) (fun j hj => by
                    obtain ⟨y, hy⟩ := some_atP (l := A ++ S) (k := A.length + j) (by rw [hRl]; omega)
                    rw [((hR4.cells rfl).2 _ y hy).1]; rfl) (fun j hj => by
                    obtain ⟨y, hy⟩ := some_atP (l := A ++ S) (k := A.length + j) (by rw [hRl]; omega)
                    exact ((hR4.cells rfl).2 _ y hy).2)
                  have hct := cutS_at g m.length cap A.length hAc (by omega)
                  have hch := cutS_head g m.length cap A.length (by omega) hc1 (by omega)
                  have hj' : ¬ (i : Int) + 1 < (L2 : Int) := by omega
                  generalize hWZ : wr.setCells g A.length (Builtin.zeroCells #[.string ⟨#[]⟩] (m.length - A.length)).toList = WZ at HCL HCB hcl
                  clear hWZ hR4 hS hSl HRL hcl1 hcl2 hRl
                  go_wp2
                  go_ret
                  exact ⟨_, rfl, by rw [← HEND.out]; exact HCL.out, HCB.out⟩
          · have HN : Hid (Tx.cmpn m (k + 1 + 1) = m.take (k + 1 + 1)) := by show _ = _; rw [Tx.cmpn_next hy hx hc, HK.out, Tx.take_snoc hy]
            rw [decide_eq_false hc] at HS
            clear hx hy hc
            go_upto_region 6 with fail
            go_region_with (go_at_call 66; refine (HS.out _).mono ?_; rintro e w4 ⟨rfl, rfl⟩)
            all_goals
              go_wp2
              go_roundg (m.length - 1 - (k + 1))
              case measure => omega
              case rel => exact ⟨k + 1, by omega, by omega, by go_num, HN, HRd, HBd⟩
        · have hkk : k + 1 = m.length := by omega
          have HQ : Hid (Tx.cmpn m m.length = m) := by
            have h := HK.out
            rw [hkk, List.take_length] at h
            exact h
          clear hkk
          go_wp2
          go_ret
          exact ⟨_, rfl, by rw [HQ.out]; exact HR.out, HB.out⟩
end Go.Proofs.YtdghhffknfkcaaaGreatDoor
/- The set of some texts. -/
namespace Go.Proofs.YtdghhffknfkcaaaGreatDoor
open Go.RowKit Go.Sort
open Tx (Rise At Ord above)
def srt (l : List Txt) : List Txt := l.mergeSort fun x y => decide (x ≤ y)
/-- Some texts, rising, each once. -/
def dd (l : List Txt) : List Txt := Tx.cmpn (srt l) (srt l).length
theorem srt_le (l : List Txt) : (srt l).Pairwise fun a b => slt b a = false := by
  have h := List.pairwise_mergeSort (le := fun x y : Txt => decide (x ≤ y)) (fun a b c h1 h2 => decide_eq_true (List.le_trans (of_decide_eq_true h1) (of_decide_eq_true h2))) (fun a b => by
    rcases List.le_total a b with h | h
    · rw [decide_eq_true h]; rfl
    · rw [decide_eq_true h, Bool.or_true]) l
  exact h.imp (fun {a b} h => decide_eq_false (List.not_lt.2 (of_decide_eq_true h)))
theorem srt_len (l : List Txt) : (srt l).length = l.length := List.length_mergeSort l
theorem srt_mem (l : List Txt) (z : Txt) : z ∈ srt l ↔ z ∈ l := List.mem_mergeSort
theorem dd_rise (l : List Txt) : Rise slt (dd l) := (Tx.cmpn_rise sord (srt l) (srt_le l) _ (Nat.le_refl _)).1
theorem dd_mem (l : List Txt) (z : Txt) : z ∈ dd l ↔ z ∈ l := by
  unfold dd
  rw [(Tx.cmpn_rise sord (srt l) (srt_le l) _ (Nat.le_refl _)).2, List.take_length, srt_mem]
theorem dd_len (l : List Txt) : (dd l).length ≤ l.length := by
  have := Tx.cmpn_len (srt l) (srt l).length
  exact Nat.le_trans this (Nat.le_of_eq (srt_len l))
theorem sxClone_any (v : Value) (l : List Txt) (hl : l.length ≤ 100000) (w : World) (hv : SlS w v l) :
    Calls Tryz.prog 63 #[v] w fun e w' => ∃ v', e = .returned v' ∧ RowS w' w.heap.size v' l ∧ Below w.heap.size w w' := by
  obtain ⟨i0, hi, hz0, hz1, hz2⟩ := info_parts infoS
  obtain ⟨a, b, o, c, rfl, ha, hx⟩ := hv
  cases a with
  | none =>
    have hl0 : l = [] := ha.resolve_right (fun h => by cases h)
    subst hl0
    exact (Tryz.slices_Clone_nil _ c w).mono fun e w' h => ⟨_, h.1, by rw [h.2]; exact ⟨RowP.nil _ _ _ _, Below.refl _ _⟩⟩
  | some ad =>
    have HX := Lib.hid hx
    have HA := Lib.hid ha
    have q22 : ∀ (w : World) (a : Option Addr) (n c n' c' : Nat), (binOp .eql 52 (.slice a n c) (.slice none n' c')).run Tryz.prog w = .ok (.bool a.isNone) w := fun w a n c n' c' => Lib.run_eql_slice_nil w _ _ a n c n' c' Tryz.underlying52
    clear ha hx
    go_enter Tryz.func63, Tryz.ntmps63
    go_wp2_with (at_builtin; refine wpList_append_own _ rfl _ _ 52 rfl w.heap.size 9 i0 _ 1 16 Tryz.underlying52 hi hz0 hz1 hz2 rfl (by decide) _ _ _ rfl (World.ownsRow_made w #[] 0 (Nat.le_refl _) (Nat.zero_le _) rfl) ad l.length c (l.map eS) rfl ?p0 ?p1 ?p2 ?p3 ?p4 ?p5 ?_)
    case p0 => simp
    case p1 =>
      intro j u hj
      rcases HA.out with h | h
      · subst h; simp at hj
      · cases h
        rw [List.getElem?_map] at hj
        cases hy : l[j]? with
        | none => rw [hy] at hj; cases hj
        | some y =>
          rw [hy] at hj
          cases hj
          rw [show (⟨b, o, none⟩ : Addr).add j = ⟨b, o + j, none⟩ by unfold Addr.add; split <;> simp_all]
          exact ((Below.refl w.heap.size w).alloc (Nat.le_refl _) _).cell (p := ⟨b, o + j, none⟩) (World.block_lt_of_cell? _ _ (HX.out j y hy)) |>.trans (HX.out j y hy)
    case p2 =>
      intro u hu
      obtain ⟨y, _, rfl⟩ := List.mem_map.1 hu
      rfl
    case p3 => unfold maxLen; omega
    case p4 => omega
    case p5 => simp
    intro v' w1 hown hgrow _
    go_wp2
    go_ret
    refine ⟨v', rfl, ?_, ((Below.refl _ w).alloc (Nat.le_refl _) _).grown hgrow (by simp) (by intro k hk; simp [Value.ownBlock] at hk; omega)⟩
    show w1.ownsRow _ _ _ _ _ _
    simpa using hown
theorem sxSort_any (v : Value) (l : List Txt) (hl : l.length ≤ 100000) (B : Nat) (w : World) (hr : RowS w B v l) :
    Calls Tryz.prog 64 #[v] w fun e w' => e = .returned (.tuple #[]) ∧ RowS w' B v (srt l) ∧ Below B w w' := by
  rcases hr.open with ⟨rfl, rfl⟩ | ⟨g, cap, cur, rfl, hB, hg, _⟩
  · exact (Any.slices_Sort_string_none Tryz.lays190 none 0 w).mono fun e w' h => ⟨h.1, by rw [h.2, show srt [] = [] from List.mergeSort_nil]; exact hr, by rw [h.2]; exact Below.refl _ _⟩
  · refine (Tryz.slices_Sort_string g 0 cap l w (hr.holds rfl) (Array.getElem?_eq_some_iff.1 hg).1 (by omega)).mono ?_
    rintro e w' ⟨he, n, os, hw⟩
    have h := RowP.put (n := n) (os := os) hr (srt l) l.length (srt_len l) (Nat.le_of_eq (srt_len l).symm)
    have hw' : w' = grow (putRow eS (Sort.ahead w n) g 0 (srt l).toArray) os := hw
    rw [hw']
    rw [List.take_of_length_le (Nat.le_of_eq (srt_len l))] at h
    exact ⟨he, h.1, h.2⟩
theorem sxOf_any (v : Value) (l : List Txt) (hl : l.length ≤ 90000) (w : World) (hv : SlS w v l) :
    Calls Tryz.prog 23 #[v] w fun e w' => ∃ p v', e = .returned (.pointer (some ⟨p, 0, none⟩)) ∧ w.heap.size ≤ p ∧ SetT w' p w.heap.size v' (dd l) ∧ Below w.heap.size w w' := by
  have HC := Lib.hid (sxClone_any v l (by omega) w hv)
  have HL := Lib.hid (srt_len l)
  have hll := hl
  obtain ⟨a, c, rfl⟩ := hv.slice
  clear hv
  go_enter Tryz.func23, Tryz.ntmps23
  go_wp2_with (first
    | (go_at_call 63; refine HC.out.mono ?_; rintro e w1 ⟨v1, rfl, hr1, hb1⟩; have HR1 := Lib.hid hr1; have HB1 := Lib.hid hb1; obtain ⟨a1, c1, rfl⟩ := hr1.slice; clear hr1 hb1)
    | (go_at_call 64; refine (sxSort_any _ l (by omega) _ _ HR1.out).mono ?_; rintro e w2 ⟨rfl, hr2, hb2⟩; have HR2 := Lib.hid hr2; have HB2 := Lib.hid hb2; clear hr2 hb2)
    | (go_at_call 65; refine (sxCptF_any _ (srt l) (by have := HL.out; omega) w.heap.size _ (Nat.le_trans HB1.out.size HB2.out.size) HR2.out).mono ?_; rintro e w3 ⟨v3, rfl, hr3, hb3⟩; have HR3 := Lib.hid hr3; have HB3 := Lib.hid hb3; obtain ⟨a3, c3, rfl⟩ := hr3.slice; clear hr3 hb3))
  go_ret
  have hb : Below w.heap.size w w3 := HB1.out.trans (HB2.out.trans HB3.out)
  refine ⟨w3.heap.size, _, rfl, hb.size, ⟨World.cell?_alloc_new w3 _ _ 0, World.frozen?_alloc_new w3 _ _ 0, HR3.out.below ((Below.refl _ _).alloc (Nat.le_refl _) _), dd_rise l, fun e => ?_⟩, hb.alloc hb.size _⟩
  have := (HR3.out.lt e).1
  exact absurd this (Nat.lt_irrefl _)
end Go.Proofs.YtdghhffknfkcaaaGreatDoor
/- Rows one by one: slices.Values of texts; a set's texts, each sought anew. -/
namespace Go.Proofs.YtdghhffknfkcaaaGreatDoor
open Go.RowKit Go.Sort
open Tx (Rise At Ord above)
attribute [local go_sem] Oper.semAt_some
abbrev WF : Fence := Fence.wide
/-- What goes through a row of texts, each of which a round takes; what the rounds keep. -/
def SeqG (n : Nat) (g : Nat) (lb : Array Value) (G : List Txt → World → Prop) (E : List Txt) : Prop :=
  ∀ (l : Nat) (J : List Txt → World → Prop) (W : World), (∀ pre W, J pre W → G pre W) → (∀ pre W q, J pre W → J pre (W.drewN q)) →
    (∀ pre x W, J pre W → pre.length < E.length → YieldAt WF (n - 1) Tryz.prog l #[.string (str x)] W fun e W' => e = .returned (.bool true) ∧ J (pre ++ [x]) W') → J [] W →
    CallsIn WF n Tryz.prog g (#[.func (.yield l) #[] #[]] ++ lb) W fun e W' => (∃ v, e = .returned v) ∧ J E W'
/-- The two that a set's row asks. -/
structure Asks (W : World) (p b1 b2 : Nat) : Prop where
  c1 : W.cell? ⟨b1, 0, none⟩ = some (.func (.func 91) #[.pointer (some ⟨p, 0, none⟩)] #[])
  c2 : W.cell? ⟨b2, 0, none⟩ = some (.func (.func 92) #[.pointer (some ⟨p, 0, none⟩)] #[])
set_option maxHeartbeats 4000000 in
/-- The row of a set that may be another between two of its texts. -/
theorem row1_in (n : Nat) (hn : 1 ≤ n) (p b1 b2 : Nat) (E : List Txt) (st : Nat → List Txt) (hst : ∀ j, (st j).length ≤ 100000) (hE0 : fst (st 0) = fst E) (hE : ∀ j x t, E.drop j = x :: t → fst (above slt (st (j + 1)) x) = fst t)
    : SeqG n 128 #[.pointer (some ⟨b1, 0, none⟩), .pointer (some ⟨b2, 0, none⟩)] (fun pre W => (∃ B v, SetT W p B v (st pre.length)) ∧ Asks W p b1 b2) E := by
  intro l J W hG hJq hY h0
  refine callsIn_of_wp Tryz.func128 rfl trivial ?_ rfl
  simp only [Tryz.ntmps128, List.size_toArray, List.length_cons, List.length_nil, Nat.reduceAdd, Nat.reduceSub, Array.replicate_succ, Array.replicate_zero, List.push_toArray, List.append_toArray, List.nil_append, List.cons_append]
  have HG0 := Lib.hid (hG _ _ h0)
  obtain ⟨⟨B0, v0, hS0⟩, c1, c2⟩ := HG0.out
  have HL := Lib.hid (sxLeast_any hS0)
  rw [show (st ([] : List Txt).length) = st 0 from rfl, hE0] at HL
  clear hS0
  gi_wp2_with (refine ⟨trivial, ?_⟩; gi_at_call 91; refine (callsIn_wide.2 HL.out).mono ?_; rintro e w1 ⟨rfl, rfl⟩)
  gi_loopg [4, 5] E.length (fun k s4 s5 wr => ∃ pre rest, Hid (E = pre ++ rest) ∧ k = rest.length ∧ s4 = .string (str (fst rest).1) ∧ s5 = .bool (fst rest).2 ∧ Hid (J pre wr))
  case atStart => exact ⟨[], E, rfl, rfl, rfl, rfl, h0⟩
  case round =>
    obtain ⟨pre, rest, HPR, rfl, rfl, rfl, hJs⟩ := hrel
    cases rest with
    | nil =>
      have hfin : Hid (J E wr) := by have := HPR.out; rw [List.append_nil] at this; rw [this]; exact hJs
      have hf : (fst []).2 = false := rfl
      gi_wp2
      go_end0
      exact ⟨⟨_, rfl⟩, hfin.out⟩
    | cons x t =>
      have hf : (fst (x :: t)).2 = true := rfl
      have hf1 : (fst (x :: t)).1 = x := rfl
      rw [hf, hf1]
      obtain ⟨fn, tmps, assign, body, hy, hR⟩ := hY pre x wr hJs.out (by rw [HPR.out]; simp)
      have HN : Hid (fst (above slt (st (pre ++ [x]).length) x) = fst t) := by
        have := hE pre.length x t (by rw [HPR.out, List.drop_left])
        show _ = _
        rw [List.length_append]
        exact this
      gi_wp2
      refine hR.mono ?_
      rintro e W3 ⟨rfl, hJ3⟩
      have HG3 := Lib.hid (hG _ _ hJ3)
      have HJ3 := Lib.hid hJ3
      obtain ⟨⟨B3, v3, hS3⟩, c31, c32⟩ := HG3.out
      have HA := Lib.hid (sxAbove_any hS3 (hst _) x)
      rw [HN.out] at HA
      clear hS3 hJ3
      gi_wp2_with (refine ⟨trivial, ?_⟩; gi_at_call 92; refine (callsIn_wide.2 HA.out).mono ?_; rintro e w4 ⟨rfl, q, rfl⟩)
      go_roundg t.length
      case rel => exact ⟨pre ++ [x], t, by show _ = _; rw [HPR.out]; simp, rfl, rfl, rfl, hJq _ _ _ HJ3.out⟩
      case measure => simp
/-- How a round's body may be left: it goes on. -/
def goesOn (B : Nat) (I : List Txt → World → Prop) (xs : List Txt) (W : World) : Exit → Act → World → Prop
  | .normal, _, W' => KeepsFrom B W W' ∧ I xs W'
  | _, _, _ => False
/-- A range over a row of texts whose body never leaves, and may turn what the row is read from, so long as it keeps what the row asks. -/
theorem rangeG {n : Nat} {g : Operand} {ps : Array Tmp} {assign body : Code} {Q : Exit → Act → World → Prop} {a : Act} {w : World} (h1 : 1 ≤ n) {gf : Nat} {lb : Array Value}
    (hg : a.eval g = .func (.func gf) #[] lb) (eg : ∀ args w, (callFunc gf args).run Tryz.prog w = .ok (.enter gf args) w) {G : List Txt → World → Prop} {E : List Txt} (hseq : SeqG (n - 1) gf lb G E) (hps : 1 = ps.size)
    (I : List Txt → World → Prop) (hI : OwnFrom w.heap.size I) (hIG : ∀ pre W, I pre W → G pre W) (hIq : ∀ pre W q, I pre W → I pre (W.drewN q)) (h0 : I [] w) (a₁ : Txt → Act)
    (hassign : ∀ (l : Nat) (x : Txt) (W : World) (K : Act → World → Prop), K (a₁ x) W →
      assign.wpIn (WF.inRound l) (n - 1 - 1) Tryz.prog (Exit.then K (fun _ _ _ => False)) { tmps := (ps.zip #[.string (str x)]).foldl (fun t (p, v) => t.setIfInBounds p v) a.tmps, defers := [] } W)
    (hbody : ∀ (l : Nat) (pre : List Txt) (x : Txt) (W : World), I pre W → pre.length < E.length → body.wpIn (WF.inRound l) (n - 1 - 1) Tryz.prog (goesOn w.heap.size I (pre ++ [x]) W) (a₁ x) W)
    (hdone : ∀ (D : Nat) (W : World), w.heap.size ≤ D → I E W → W.heap[D]? = some (.deferred (some [])) → Q .normal { a with defers := { target := .collected D, args := #[] } :: a.defers } W) :
    (Code.rangeFunc g ps assign body).wpIn WF n Tryz.prog Q a w := by
  refine wpIn_rangeFunc (fun fn hfn => ?_)
  rw [show WF.round = none from rfl]
  obtain ⟨lp, hlp⟩ : ∃ lp : LoopState → Loop, lp = fun st => { state := st, pending := none, fn, tmps := a.tmps, params := ps, assign, body, defers := w.heap.size } := ⟨_, rfl⟩
  obtain ⟨X, hX⟩ : ∃ X, X = (w.alloc (.deferred (some []))).alloc (.loop (lp .ready)) := ⟨_, rfl⟩
  have xl : X.heap[w.heap.size + 1]? = some (.loop (lp .ready)) := by
    rw [hX]; have := heap_alloc_new (w.alloc (.deferred (some []))) (.loop (lp .ready)); rwa [World.size_alloc] at this
  have xd : X.heap[w.heap.size]? = some (.deferred (some [])) := by
    rw [hX]; exact (Below.heap_alloc _ _ _ (by simp)).trans (heap_alloc_new w _)
  have xs : w.heap.size ≤ X.heap.size := by rw [hX]; simp; omega
  have xi : I [] X := by rw [hX]; exact hI.alloc _ (hI.alloc _ h0)
  refine ⟨w.heap.size + 1, [{ target := .collected w.heap.size, args := #[] }], X, { target := .fn (.func gf) lb, args := #[.func (.yield (w.heap.size + 1)) #[] #[]] }, X, gf, #[.func (.yield (w.heap.size + 1)) #[] #[]] ++ lb, X, ?_, ?_, fun _ _ => trivial, ?_, fun _ => h1, ?_⟩
  · rw [hX, hlp]; exact run_enterLoop_outer _ _ _ _ _
  · simp only [resolve, hg]
    simp [go_sem]
  · simp [invoke, go_sem, eg]
  · refine (hseq (w.heap.size + 1) (fun pre W => I pre W ∧ W.heap[w.heap.size + 1]? = some (.loop (lp .ready)) ∧ W.heap[w.heap.size]? = some (.deferred (some []))) X (fun pre W h => hIG pre W h.1) (fun pre W q h => ⟨hIq pre W q h.1, h.2⟩) ?_ ⟨xi, xl, xd⟩).mono ?_
    · rintro pre x W ⟨hi, hl, hk⟩ hlen
      have hlt : w.heap.size + 1 < W.heap.size := (Array.getElem?_eq_some_iff.1 hl).1
      have hy := run_yield (P := Tryz.prog) (args := #[.string (str x)]) hl (by rw [hlp]; exact hps)
      rw [hlp] at hy
      refine ⟨fn, _, assign, body, hy, roundIn_of_wpIn hfn (hassign _ x W _ ⟨_, run_beginRound hl (by rw [hlp]), ?_⟩)⟩
      obtain ⟨W2, hW2⟩ : ∃ W2, W2 = W.putObj (w.heap.size + 1) (.loop { lp .ready with state := .busy }) := ⟨_, rfl⟩
      have hl2 : W2.heap[w.heap.size + 1]? = some (.loop { lp .ready with state := .busy }) := by rw [hW2]; exact World.putObj_heap_same hlt
      have hk2 : W2.heap[w.heap.size]? = some (.deferred (some [])) := by rw [hW2]; exact (World.putObj_heap_other (by omega)).trans hk
      have hi2 : I pre W2 := by rw [hW2]; exact hI.putObj _ hi (by omega) hl rfl
      rw [← hW2]
      refine wpIn_mono (hbody _ pre x W2 hi2 hlen) ?_
      rintro e a3 W3 hp
      cases e with
      | normal =>
        obtain ⟨hk3, hi3⟩ := hp
        have hl3 := hk3.same _ _ (by omega) hl2 rfl
        have he := run_endRound (P := Tryz.prog) none hl3
        rw [hlp] at he hl3
        refine ⟨_, _, he, rfl, hI.putObj _ hi3 (by omega) hl3 rfl, ?_, (World.putObj_heap_other (by omega)).trans (hk3.same _ _ (Nat.le_refl _) hk2 rfl)⟩
        rw [hlp]; exact World.putObj_heap_same (Array.getElem?_eq_some_iff.1 hl3).1
      | _ => exact hp.elim
    · rintro e W2 ⟨⟨v, rfl⟩, hi, hl, hk⟩
      exact ⟨none, _, by have := run_endLoop (P := Tryz.prog) hl (by rw [hlp]; simp); rw [hlp] at this; exact this, hdone _ _ (Nat.le_refl _) (hI.putObj _ hi (by omega) hl rfl) ((World.putObj_heap_other (by omega)).trans hk)⟩
end Go.Proofs.YtdghhffknfkcaaaGreatDoor
/- A map from texts to pairs, kept as a function. -/
namespace Go.Proofs.YtdghhffknfkcaaaGreatDoor
open Go.RowKit Go.Maps Go.WideMaps
def heldP : Value → Option (DataW Value × List MemPlace) := fun v => some (.held v, [])
def zP : Value := .agg #[.string ⟨#[]⟩, .string ⟨#[]⟩]
def updS {α : Type} (f : List UInt8 → Option α) (k : List UInt8) (x : Option α) : List UInt8 → Option α := fun j => if j = k then x else f j
theorem updS_same {α : Type} (f : List UInt8 → Option α) (k : List UInt8) (x : Option α) : updS f k x k = x := if_pos rfl
theorem updS_other {α : Type} (f : List UInt8 → Option α) (k : List UInt8) (x : Option α) {j : List UInt8} (h : j ≠ k) : updS f k x j = f j := if_neg h
def MapS (w : World) (b n : Nat) (f : List UInt8 → Option Value) : Prop :=
  ∃ D : DataW Value, w.ownsMap Tryz.prog 9 heldP b n D ∧ ∀ k : List UInt8, Maps.has D (.string k) = (f k).isSome ∧ D.atKey (.string k) (.held zP) = .held ((f k).getD zP)
theorem keyS {k : List UInt8} (h : k.length ≤ maxLen) : keyOf Tryz.prog 9 (.string (str k)) = some (.string k) := keyOf_string_mk Tryz.underlying9 (s := str k) h
theorem lawS : Keyed Tryz.prog 9 := string_keyed Tryz.underlying9
theorem zeroP (w : World) : (zeroValue 60).run Tryz.prog w = .ok zP w := by kernel_rfl
theorem MapS.made (w : World) : MapS (w.alloc (.map #[] 0)) w.heap.size 0 (fun _ => none) := ⟨.map [], World.ownsMap_made _ _ _ _, fun k => ⟨rfl, rfl⟩⟩
theorem MapS.look {w : World} {b n : Nat} {f : List UInt8 → Option Value} (h : MapS w b n f) {k : List UInt8} (hk : k.length ≤ maxLen) : (Instr.lookup 72 (.map (some b)) (.string (str k)) false).run Tryz.prog w = .ok ((f k).getD zP) w := by
  obtain ⟨D, ho, hf⟩ := h
  obtain ⟨v, ps, hr, hv⟩ := ho.lookup lawS Tryz.underlying72 (zeroP w) (zd := .held zP) (zp := []) rfl (keyS hk)
  rw [(hf k).2] at hv
  simp [heldP] at hv
  rw [hr, hv.1]
theorem MapS.lookOk {w : World} {b n : Nat} {f : List UInt8 → Option Value} (h : MapS w b n f) {k : List UInt8} (hk : k.length ≤ maxLen) : (Instr.lookup 72 (.map (some b)) (.string (str k)) true).run Tryz.prog w = .ok (.tuple #[(f k).getD zP, .bool (f k).isSome]) w := by
  obtain ⟨D, ho, hf⟩ := h
  obtain ⟨v, ps, hr, hv⟩ := ho.look_ok lawS Tryz.underlying72 (zeroP w) (zd := .held zP) (zp := []) rfl (keyS hk)
  rw [(hf k).2] at hv
  simp [heldP] at hv
  rw [hr, hv.1, (hf k).1]
theorem litS_ne {j k : List UInt8} (h : j ≠ k) : Lit.string j ≠ Lit.string k := by
  intro e
  injection e with e
  exact h e
theorem MapS.store {w : World} {b n : Nat} {f : List UInt8 → Option Value} (h : MapS w b n f) {k : List UInt8} (hk : k.length ≤ maxLen) (hn : n < maxLen) (v : Value) :
    ∃ w', (Instr.mapUpdate 72 (.map (some b)) (.string (str k)) v).run Tryz.prog w = .ok () w' ∧ MapS w' b (n + 1) (updS f k (some v)) ∧ w.mapTurned w' b := by
  obtain ⟨D, ho, hf⟩ := h
  obtain ⟨w', hr, h1, h2⟩ := ho.store lawS Tryz.underlying72 hn (val := v) (keyS hk) (d := .held v) (ps := []) rfl
  refine ⟨w', hr, ⟨_, h1, fun j => ?_⟩, h2⟩
  by_cases hjk : j = k
  · subst hjk
    rw [updS_same, Maps.has_put_same ho.isMap (lawS.key (keyS hk)), Maps.atKey_put_same ho.isMap (lawS.key (keyS hk))]
    exact ⟨rfl, rfl⟩
  · rw [updS_other _ _ _ hjk, Maps.has_put_other (litS_ne hjk), Maps.atKey_put_other (litS_ne hjk)]
    exact hf j
theorem MapS.drop {w : World} {b n : Nat} {f : List UInt8 → Option Value} (h : MapS w b n f) {k : List UInt8} (hk : k.length ≤ maxLen) (ty : TypeId) :
    ∃ w', (Builtin.delete_ #[72, 9] ty #[.map (some b), .string (str k)]).run Tryz.prog w = .ok (.tuple #[]) w' ∧ MapS w' b n (updS f k none) ∧ w.mapTurned w' b := by
  obtain ⟨D, ho, hf⟩ := h
  obtain ⟨w', hr, h1, h2⟩ := ho.drop lawS Tryz.underlying72 (keyS hk) ty
  refine ⟨w', hr, ⟨_, h1, fun j => ?_⟩, h2⟩
  by_cases hjk : j = k
  · subst hjk
    rw [updS_same, Maps.has_del_same, Maps.atKey_del_same]
    exact ⟨rfl, rfl⟩
  · rw [updS_other _ _ _ hjk, Maps.has_del_other (litS_ne hjk), Maps.atKey_del_other (litS_ne hjk)]
    exact hf j
theorem MapS.lt {w : World} {b n : Nat} {f : List UInt8 → Option Value} (h : MapS w b n f) : b < w.heap.size := by
  obtain ⟨D, ho, _⟩ := h
  exact ho.lt
theorem MapS.kept {w w' : World} {b n : Nat} {f : List UInt8 → Option Value} (h : MapS w b n f) (hb : w'.heap[b]? = w.heap[b]?) : MapS w' b n f := by
  obtain ⟨D, ⟨es, clock, h0, h1⟩, hf⟩ := h
  exact ⟨D, ⟨es, clock, hb.trans h0, h1⟩, hf⟩
theorem MapS.same {w : World} {b n : Nat} {f g : List UInt8 → Option Value} (h : MapS w b n f) (e : ∀ k, f k = g k) : MapS w b n g := by
  obtain ⟨D, ho, hf⟩ := h
  exact ⟨D, ho, fun k => by rw [← e k]; exact hf k⟩
end Go.Proofs.YtdghhffknfkcaaaGreatDoor
