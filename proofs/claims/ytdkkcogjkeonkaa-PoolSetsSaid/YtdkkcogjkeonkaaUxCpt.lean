/- The contract of slices.CompactFunc at texts, by 'same'. -/
import Derived.Test.YtdkkcogjkeonkaaTxCptM
import Derived.Test.YtdkkcogjkeonkaaUxAdd
import Derived.Deep.LoopGhost
import Derived.BigQuiet
import Derived.Deep.DeepCutAuto
import Derived.Deep.QuietTactic
import Derived.Deep.RegionWith
set_option maxRecDepth 100000
set_option maxHeartbeats 4000000
set_option linter.unusedVariables false
namespace Go.Proofs.Ytdkkcogjkeonkaa
open Go.RowKit Go.Sort
theorem uxSame_any (x y : Nat) (w : World) : Calls Try.prog 26 #[.int .u32 x, .int .u32 y] w fun e w' => e = .returned (.bool (decide (x = y))) ∧ w = w' := psame_any x y w
theorem sizeV : ∀ w, (Go.sizeOf (Try.prog.elem 22)).run Try.prog w = .ok 1 w := fun w => by kernel_rfl
theorem zero_lenV (n : Nat) : (Builtin.zeroCells #[.int .u32 0] n).toList.length = n := by simp [Builtin.zeroCells]
theorem zero_oneV (n : Nat) : ∀ v ∈ (Builtin.zeroCells #[.int .u32 0] n).toList, v.oneCell' = true := by
  intro v hv
  simp only [Builtin.zeroCells, Array.toList_map, Array.toList_range] at hv
  obtain ⟨i, hi, rfl⟩ := List.mem_map.1 hv
  simp [Nat.mod_one, Value.oneCell']
/-- 'clear(s)', s of texts. -/
theorem run_clearV (w : World) (ty : TypeId) (b o n c : Nat) (hn : 0 < n) (hc : ∀ j, j < n → (w.cell? ⟨b, o + j, none⟩).isSome = true) (hf : ∀ j, j < n → w.frozen? ⟨b, o + j, none⟩ = false) :
    (Builtin.clear_ #[22] ty #[.slice (some ⟨b, o, none⟩) n c]).run Try.prog w = .ok (.tuple #[]) (w.setCells b o (Builtin.zeroCells #[.int .u32 0] n).toList) := by
  have hst := run_storeCells_cells (P := Try.prog) b o (Builtin.zeroCells #[.int .u32 0] n).toList 0 w (by rw [zero_lenV]; simpa using hc) (by rw [zero_lenV]; simpa using hf) (zero_oneV n)
  simp only [Nat.add_zero] at hst
  have hv : ∀ w, (zeroValue 24).run Try.prog w = .ok (.int .u32 0) w := fun w => by kernel_rfl
  have hz : (Value.int .u32 0).cells = #[.int .u32 0] := rfl
  obtain ⟨n', rfl⟩ : ∃ m, n = m + 1 := ⟨n - 1, by omega⟩
  simp [Builtin.clear_, run_underlying Try.underlying22, hv, hz, hst]
theorem cutV_at (g n c q : Nat) (hq : q < c) (hqn : q ≤ n) : ∀ W, (Instr.sliceAt 22 (.slice (some ⟨g, 0, none⟩) n c) (some (.int .i64 (q : Int))) none none).run Try.prog W = .ok (.slice (some ⟨g, q, none⟩) (n - q) (c - q)) W := by
  intro W
  have hT : Try.prog.underlying 22 = some (.slice (Try.prog.elem 22)) := by kernel_rfl
  rw [run_sliceAt_slice (h := hT), run_slice_l (ht := hT) (h0 := by omega) (h1 := by omega), sizeV W]
  simp only [Result.andThen, sliced, Int.toNat_natCast]
  rw [if_neg (by omega)]
  simp only [Option.map_some, add_plain', Nat.zero_add, Nat.mul_one]
theorem cutV_head (g n c q : Nat) (hq : q ≤ n) (hc : n ≤ c) (h0 : 0 < c) : ∀ W, (Instr.sliceAt 22 (.slice (some ⟨g, 0, none⟩) n c) none (some (.int .i64 (q : Int))) none).run Try.prog W = .ok (.slice (some ⟨g, 0, none⟩) q c) W := by
  intro W
  have hT : Try.prog.underlying 22 = some (.slice (Try.prog.elem 22)) := by kernel_rfl
  rw [run_sliceAt_slice (h := hT), run_slice_h (ht := hT) (h0 := by omega) (h2 := by omega), sizeV W]
  simp only [Result.andThen, sliced, Int.toNat_natCast]
  rw [if_neg (by omega)]
  simp only [Option.map_some, add_plain', Nat.zero_add, Nat.zero_mul, Nat.sub_zero]
set_option maxHeartbeats 8000000 in
theorem uxCptF_any (v : Value) (m : List Nat) (hm : m.length ≤ 100000) (B : Nat) (w : World) (hB : B ≤ w.heap.size) (hr : RowV w B v m) :
    Calls Try.prog 25 #[v, .func (.func 26) #[] #[]] w fun e w' => ∃ v', e = .returned v' ∧ RowV w' B v' (Tx.cmpn m m.length) ∧ Below B w w' := by
  by_cases hs : m.length < 2
  · have hq : Tx.cmpn m m.length = m := by
      match m, hs with
      | [], _ => rfl
      | [x], _ => rfl
      | x :: y :: t, h => simp at h; omega
    rw [hq]
    have HSL := Lib.hid hr
    obtain ⟨a, c, rfl⟩ := hr.slice
    have hs' : (m.length : Int) < 2 := by omega
    clear hr
    go_enter Try.func25, Try.ntmps25
    go_wp2
    go_ret
    exact ⟨_, rfl, HSL.out, Below.refl _ _⟩
  · rcases hr.open with ⟨_, hz⟩ | ⟨g, cap, cur, rfl, hBg, hb, hc1, hc2, hc3, hc4⟩
    · rw [hz] at hs; simp at hs
    · have HR0 := Lib.hid hr
      have HBG := Lib.hid hBg
      have hs' : ¬ (m.length : Int) < 2 := by omega
      clear hr hb hc2 hc3 hc4 hBg
      go_enter Try.func25, Try.ntmps25
      go_wp2
      go_loopg [5] (m.length - 1) (fun n i wr => ∃ k : Nat, k + 1 ≤ m.length ∧ n = m.length - 1 - k ∧ i = .int .i64 ((k : Int) + 1) ∧ Hid (Tx.cmpn m (k + 1) = m.take (k + 1)) ∧ Hid (RowV wr B (.slice (some ⟨g, 0, none⟩) m.length cap) m) ∧ Hid (Below B w wr))
      case atStart => exact ⟨0, by omega, by omega, rfl, rfl, HR0.out, Below.refl _ _⟩
      case round =>
        obtain ⟨k, hk, rfl, rfl, HK, HR, HB⟩ := hrel
        by_cases hlt : k + 1 < m.length
        · obtain ⟨x, hx⟩ := some_atP (show k < m.length by omega)
          obtain ⟨y, hy⟩ := some_atP hlt
          have d0 := ((HR.out.cells rfl).2 k x hx).1
          have d2 := ((HR.out.cells rfl).2 (k + 1) y hy).1
          have hi : (k : Int) + 1 < (m.length : Int) := by omega
          have hi0 : (k : Int) < (m.length : Int) := by omega
          have hk0 : (0 : Int) ≤ (k : Int) := by omega
          have hk1 : (0 : Int) ≤ (k : Int) + 1 := by omega
          have hw1 : IntKind.i64.wrap ((k : Int) + 1 - 1) = (k : Int) := by rw [show (k : Int) + 1 - 1 = k by omega]; exact IntWalk.i64_in _ (by omega)
          have hw0 : IntKind.i64.wrap (k : Int) = (k : Int) := IntWalk.i64_in _ (by omega)
          have ht1 : ((k : Int) + 1).toNat = k + 1 := by omega
          have HS := Lib.hid (fun W => uxSame_any y x W)
          have HRd : Hid (RowV wr.drew B (.slice (some ⟨g, 0, none⟩) m.length cap) m) := HR.out.below (below_drewV (Below.refl _ _) 1)
          have HBd : Hid (Below B w wr.drew) := below_drewV HB.out 1
          by_cases hc : y = x
          · subst hc
            have HC1 := Lib.hid ((Tx.cmpn_same hy hx).trans HK.out)
            rw [decide_eq_true rfl] at HS
            clear hx hy
            obtain ⟨L2, hL2⟩ : ∃ L2, L2 = m.length - (k + 1) := ⟨_, rfl⟩
            have hkc : k + 1 < cap := Nat.lt_of_lt_of_le hlt hc1
            have hcut := cutV_at g m.length cap (k + 1) hkc (by omega)
            rw [← hL2, show ((k + 1 : Nat) : Int) = (k : Int) + 1 by omega] at hcut
            go_upto_region 6 with fail
            go_region_with (go_at_call 26; refine (HS.out _).mono ?_; rintro e w4 ⟨rfl, rfl⟩)
            all_goals
              go_wp2
              clear hcut d0 d2
              go_loopg [5, 7] (L2 - 1) (fun n cv iv wr2 => ∃ (i : Nat) (A : List Nat), i + 1 ≤ L2 ∧ n = L2 - 1 - i ∧ cv = .int .i64 (A.length : Nat) ∧ iv = .int .i64 ((i : Int) + 1) ∧ Hid (A = Tx.cmpn m (k + 1 + (i + 1))) ∧ Hid (A.length + 1 ≤ k + 1 + (i + 1)) ∧ Hid (RowV wr2 B (.slice (some ⟨g, 0, none⟩) m.length cap) (A ++ m.drop A.length)) ∧ Hid (Below B w wr2))
              case atStart =>
                have htl : (m.take (k + 1)).length = k + 1 := by rw [List.length_take]; omega
                refine ⟨0, m.take (k + 1), by omega, by omega, by rw [htl]; rfl, rfl, HC1.out.symm, by show _ ≤ _; rw [htl]; omega, ?_, HBd⟩
                show RowP _ _ _ _ _ _
                rw [htl, List.take_append_drop]
                exact HRd.out
              case round =>
                obtain ⟨i, A, hi2, rfl, rfl, rfl, HA, HAL, HR2, HB2⟩ := hrel
                have HRL : Hid ((A ++ m.drop A.length).length = m.length) := by have := HAL.out; show _ = _; rw [List.length_append, List.length_drop]; omega
                by_cases hlt2 : i + 1 < L2
                · obtain ⟨o, ho⟩ := some_atP (show k + 1 + i < m.length by omega)
                  obtain ⟨p, hp⟩ := some_atP (show k + 1 + (i + 1) < m.length by omega)
                  obtain ⟨z, hz⟩ := some_atP (show A.length < m.length by have := HAL.out; omega)
                  have d0 := ((HR2.out.cells rfl).2 _ _ ((rest_atP (by have := HAL.out; omega)).trans ho)).1
                  have d2 := ((HR2.out.cells rfl).2 _ _ ((rest_atP (by have := HAL.out; omega)).trans hp)).1
                  have d4 := ((HR2.out.cells rfl).2 _ _ ((rest_atP (Nat.le_refl _)).trans hz)).1
                  have f4 := ((HR2.out.cells rfl).2 _ _ ((rest_atP (Nat.le_refl _)).trans hz)).2
                  have hj : (i : Int) + 1 < (L2 : Int) := by omega
                  have hj0 : (i : Int) < (L2 : Int) := by omega
                  have hj1 : (0 : Int) ≤ (i : Int) := by omega
                  have hj2 : (0 : Int) ≤ (i : Int) + 1 := by omega
                  have hv1 : IntKind.i64.wrap ((i : Int) + 1 - 1) = (i : Int) := by rw [show (i : Int) + 1 - 1 = i by omega]; exact IntWalk.i64_in _ (by omega)
                  have hv0 : IntKind.i64.wrap (i : Int) = (i : Int) := IntWalk.i64_in _ (by omega)
                  have ht2 : ((i : Int) + 1).toNat = i + 1 := by omega
                  have hA0 : (0 : Int) ≤ (A.length : Int) := by omega
                  have hA1 : (A.length : Int) < (m.length : Int) := by have := HAL.out; omega
                  have HS2 := Lib.hid (fun W => uxSame_any p o W)
                  by_cases hc2 : p = o
                  · subst hc2
                    have HN := Lib.hid (HA.out.trans (Tx.cmpn_same hp ho).symm)
                    rw [decide_eq_true rfl] at HS2
                    have HRe : Hid (RowV wr.drew B (.slice (some ⟨g, 0, none⟩) m.length cap) (A ++ m.drop A.length)) := HR2.out.below (below_drewV (Below.refl _ _) 1)
                    have HBe : Hid (Below B w wr.drew) := below_drewV HB2.out 1
                    clear ho hp hz d4 f4
                    go_upto_region 11 with fail
                    go_region_with (go_at_call 26; refine (HS2.out _).mono ?_; rintro e w4 ⟨rfl, rfl⟩)
                    all_goals
                      go_wp2
                      go_roundg (L2 - 1 - (i + 1))
                      case measure => omega
                      case rel => exact ⟨i + 1, A, by omega, by omega, rfl, by go_num, HN, by have := HAL.out; show _ ≤ _; omega, HRe, HBe⟩
                  · have HN : Hid (A ++ [p] = Tx.cmpn m (k + 1 + (i + 1) + 1)) := by show _ = _; rw [HA.out]; exact (Tx.cmpn_next hp ho hc2).symm
                    rw [decide_eq_false hc2] at HS2
                    have HRe : Hid (RowV (wr.drew.setCell ⟨g, A.length, none⟩ (.int .u32 p)) B (.slice (some ⟨g, 0, none⟩) m.length cap) (A ++ [p] ++ m.drop (A ++ [p]).length)) := by
                      have h : RowV wr.drew B (.slice (some ⟨g, 0, none⟩) m.length cap) (A ++ m.drop A.length) := HR2.out.below (below_drewV (Below.refl _ _) 1)
                      rw [← HRL.out] at h
                      have h2 := RowP.set h A.length p
                      rw [List.length_set, HRL.out, set_restP (by have := HAL.out; omega)] at h2
                      exact h2
                    have HBe : Hid (Below B w (wr.drew.setCell ⟨g, A.length, none⟩ (.int .u32 p))) := (below_drewV HB2.out 1).setCell (p := ⟨g, A.length, none⟩) HBG.out _
                    clear ho hp hz hc2
                    go_upto_region 11 with fail
                    go_region_with (go_at_call 26; refine (HS2.out _).mono ?_; rintro e w4 ⟨rfl, rfl⟩)
                    all_goals
                      go_wp2
                      go_roundg (L2 - 1 - (i + 1))
                      case measure => omega
                      case rel => exact ⟨i + 1, A ++ [p], by omega, by omega, by rw [List.length_append]; go_num, by go_num, HN, by have := HAL.out; show _ ≤ _; rw [List.length_append, List.length_singleton]; omega, HRe, HBe⟩
                · have hj : k + 1 + (i + 1) = m.length := by omega
                  have hAm : A.length < m.length := by have := HAL.out; omega
                  have hAc : A.length < cap := Nat.lt_of_lt_of_le hAm hc1
                  have HEND : Hid (A = Tx.cmpn m m.length) := by have h := HA.out; rw [hj] at h; exact h
                  obtain ⟨S, hS⟩ : ∃ S, S = m.drop A.length := ⟨_, rfl⟩
                  have hSl : S.length = m.length - A.length := by rw [hS, List.length_drop]
                  have hR4 := HR2.out
                  have hRl := HRL.out
                  rw [← hS] at hR4 hRl
                  obtain ⟨hcl1, hcl2, _, _⟩ := hR4.cleared hRl (Builtin.zeroCells #[.int .u32 0] (m.length - A.length)).toList (by rw [zero_lenV, hSl])
                  have HCL := Lib.hid hcl1
                  have HCB := Lib.hid (HB2.out.trans hcl2)
                  have hcl := fun (ty : TypeId) => run_clearV wr ty g A.length (m.length - A.length) (cap - A.length) (by omega) (fun j hj => by
                    obtain ⟨y, hy⟩ := some_atP (l := A ++ S) (k := A.length + j) (by rw [hRl]; omega)
                    rw [((hR4.cells rfl).2 _ y hy).1]; rfl) (fun j hj => by
                    obtain ⟨y, hy⟩ := some_atP (l := A ++ S) (k := A.length + j) (by rw [hRl]; omega)
                    exact ((hR4.cells rfl).2 _ y hy).2)
                  have hct := cutV_at g m.length cap A.length hAc (by omega)
                  have hch := cutV_head g m.length cap A.length (by omega) hc1 (by omega)
                  have hj' : ¬ (i : Int) + 1 < (L2 : Int) := by omega
                  generalize hWZ : wr.setCells g A.length (Builtin.zeroCells #[.int .u32 0] (m.length - A.length)).toList = WZ at HCL HCB hcl
                  clear hWZ hR4 hS hSl HRL hcl1 hcl2 hRl
                  go_wp2
                  go_ret
                  exact ⟨_, rfl, by rw [← HEND.out]; exact HCL.out, HCB.out⟩
          · have HN : Hid (Tx.cmpn m (k + 1 + 1) = m.take (k + 1 + 1)) := by show _ = _; rw [Tx.cmpn_next hy hx hc, HK.out, Tx.take_snoc hy]
            rw [decide_eq_false hc] at HS
            clear hx hy hc
            go_upto_region 6 with fail
            go_region_with (go_at_call 26; refine (HS.out _).mono ?_; rintro e w4 ⟨rfl, rfl⟩)
            all_goals
              go_wp2
              go_roundg (m.length - 1 - (k + 1))
              case measure => omega
              case rel => exact ⟨k + 1, by omega, by omega, by go_num, HN, HRd, HBd⟩
        · have hkk : k + 1 = m.length := by omega
          have HQ : Hid (Tx.cmpn m m.length = m) := by
            have h := HK.out
            rw [hkk, List.take_length] at h
            exact h
          clear hkk
          go_wp2
          go_ret
          exact ⟨_, rfl, by rw [HQ.out]; exact HR.out, HB.out⟩
end Go.Proofs.Ytdkkcogjkeonkaa
