/- LedgerFrames: for every row of entries, number of more, row of pages, transaction, time and number of entries the law answers true. No condition of its own. -/
import Derived.Test.YtgckaecjjoghbaaL06
import Derived.Test.YtgckaecjjoghbaaL03
import Derived.Test.YtgckaecjjoghbaaL05
import Derived.Deep.LoopGhost
import Derived.BigQuiet
import Derived.Deep.DeepCutAuto
import Derived.Deep.QuietTactic
import Derived.Test.YtgckaecjjoghbaaL02
import Derived.Lib.SliceRun
import Derived.Maps.AppendAt
import Derived.Laws.AppendOwnNone
import Derived.Lib.AppendZerosOnto
import Derived.Lib.Walk
import Derived.ProofKit
import Derived.OpenShut
import Derived.ShutString
import Derived.ChangeOld
import Derived.Carry
import Derived.Deep.Slices
import Derived.ChangeSlices
import Derived.WalkKit
import Derived.Below
set_option maxRecDepth 100000
set_option maxHeartbeats 4000000
set_option linter.unusedVariables false
/- The contract of slices.Compact at entries. -/
namespace Go.Proofs.Ytgckaecjjoghbaa
open Go.RowKit
open Ld (En)
theorem rowE_at {T : TypeId} {w : World} {B g c : Nat} {l : List En} (h : w.ownsRow B T 2 (.slice (some ⟨g, 0, none⟩) l.length c) l.length (l.flatMap cellsE)) {j : Nat} {x : En} (hj : l[j]? = some x) :
    (w.cell? ⟨g, j * 2, none⟩ = some (.int .u64 x.tx) ∧ w.cell? ⟨g, j * 2 + 1, none⟩ = some (.int .u32 x.page)) ∧ w.frozen? ⟨g, j * 2, none⟩ = false ∧ w.frozen? ⟨g, j * 2 + 1, none⟩ = false := by
  have hlt := (List.getElem?_eq_some_iff.1 hj).1
  have c := fun i (hi : i < 2) => (h.cellAt (j * 2 + i) (by omega)).trans (flat_at cellsE 2 cellsE_len l j i x hj hi)
  exact ⟨⟨c 0 (by omega), c 1 (by omega)⟩, h.frozenAt _, h.frozenAt _⟩
theorem flat_set2 (A T : List En) (z x : En) : (((A ++ z :: T).flatMap cellsE).set (A.length * 2) (.int .u64 x.tx)).set (A.length * 2 + 1) (.int .u32 x.page) = (A ++ x :: T).flatMap cellsE := by
  have hfl := flat_len cellsE 2 cellsE_len A
  rw [List.flatMap_append, List.flatMap_cons, List.flatMap_append, List.flatMap_cons]
  rw [List.set_append_right _ _ (by rw [hfl]; omega), show A.length * 2 - (A.flatMap cellsE).length = 0 by rw [hfl]; omega]
  rw [List.set_append_right _ _ (by rw [hfl]; omega), show A.length * 2 + 1 - (A.flatMap cellsE).length = 1 by rw [hfl]; omega]
  rfl
theorem rowE_set {T : TypeId} {w : World} {B g c : Nat} {A S : List En} {z : En} (x : En) (h : w.ownsRow B T 2 (.slice (some ⟨g, 0, none⟩) (A ++ z :: S).length c) (A ++ z :: S).length ((A ++ z :: S).flatMap cellsE)) :
    ((w.setCell ⟨g, A.length * 2, none⟩ (.int .u64 x.tx)).setCell ⟨g, A.length * 2 + 1, none⟩ (.int .u32 x.page)).ownsRow B T 2 (.slice (some ⟨g, 0, none⟩) (A ++ x :: S).length c) (A ++ x :: S).length ((A ++ x :: S).flatMap cellsE) := by
  have hst := ((h.stored (A.length * 2) (.int .u64 x.tx)).1.stored (A.length * 2 + 1) (.int .u32 x.page)).1
  rw [flat_set2] at hst
  rw [show (A ++ x :: S).length = (A ++ z :: S).length by simp]
  exact hst
theorem zero_two (n : Nat) : ∀ v ∈ (Builtin.zeroCells #[.int .u64 0, .int .u32 0] n).toList, v.oneCell' = true := by
  intro v hv
  simp only [Builtin.zeroCells, Array.toList_map, Array.toList_range] at hv
  obtain ⟨i, hi, rfl⟩ := List.mem_map.1 hv
  have : i % 2 = 0 ∨ i % 2 = 1 := by omega
  rcases this with h | h <;> simp [h, Value.oneCell']
theorem zero_len (n : Nat) : (Builtin.zeroCells #[.int .u64 0, .int .u32 0] n).toList.length = n * 2 := by simp [Builtin.zeroCells]
/-- 'clear(s)', s of entries. -/
theorem run_clearE (w : World) (ty : TypeId) (b o n c : Nat) (hn : 0 < n) (hc : ∀ j, j < n * 2 → (w.cell? ⟨b, o + j, none⟩).isSome = true) (hf : ∀ j, j < n * 2 → w.frozen? ⟨b, o + j, none⟩ = false) :
    (Builtin.clear_ #[45] ty #[.slice (some ⟨b, o, none⟩) n c]).run Try.prog w = .ok (.tuple #[]) (w.setCells b o (Builtin.zeroCells #[.int .u64 0, .int .u32 0] n).toList) := by
  have hst := run_storeCells_cells (P := Try.prog) b o (Builtin.zeroCells #[.int .u64 0, .int .u32 0] n).toList 0 w (by rw [zero_len]; simpa using hc) (by rw [zero_len]; simpa using hf) (zero_two n)
  simp only [Nat.add_zero] at hst
  have hv : ∀ w, (zeroValue 62).run Try.prog w = .ok (.agg #[.int .u64 0, .int .u32 0]) w := fun w => by kernel_rfl
  have hz : (Value.agg #[.int .u64 0, .int .u32 0]).cells = #[.int .u64 0, .int .u32 0] := rfl
  obtain ⟨n', rfl⟩ : ∃ m, n = m + 1 := ⟨n - 1, by omega⟩
  simp [Builtin.clear_, run_underlying Try.underlying45, hv, hz, hst]
theorem cleared {w : World} {B g n c : Nat} {A S : List En} (h : w.ownsRow B 62 2 (.slice (some ⟨g, 0, none⟩) n c) n ((A ++ S).flatMap cellsE)) (hn : (A ++ S).length = n) :
    SlE (w.setCells g (A.length * 2) (Builtin.zeroCells #[.int .u64 0, .int .u32 0] S.length).toList) (.slice (some ⟨g, 0, none⟩) A.length c) A ∧ Below B w (w.setCells g (A.length * 2) (Builtin.zeroCells #[.int .u64 0, .int .u32 0] S.length).toList) := by
  rcases h.2 with ⟨h0, _⟩ | ⟨g', cap', cur, hv, hB, hb, hc1, hc2, hc3, hc4⟩
  · cases h0
  · simp only [Value.slice.injEq, Option.some.injEq, Addr.mk.injEq] at hv
    obtain ⟨⟨rfl, _⟩, _, rfl⟩ := hv
    have hsz : A.length * 2 + (Builtin.zeroCells #[.int .u64 0, .int .u32 0] S.length).toList.length ≤ cur.size := by
      rw [zero_len, hc3]
      rw [List.length_append] at hn
      have := Nat.mul_le_mul_right 2 hc1
      omega
    rw [setCells_row g 62 _ _ cur w hb hsz]
    refine ⟨⟨_, g, 0, c, rfl, .inr rfl, fun j x hj => ?_⟩, ?_⟩
    · have hjA := (List.getElem?_eq_some_iff.1 hj).1
      have key : ∀ i, i < 2 → ((cur.toList.take (A.length * 2) ++ (Builtin.zeroCells #[.int .u64 0, .int .u32 0] S.length).toList ++ cur.toList.drop (A.length * 2 + (Builtin.zeroCells #[.int .u64 0, .int .u32 0] S.length).toList.length)).toArray)[j * 2 + i]? = (cellsE x)[i]? := by
        intro i hi
        have h1 := flat_at cellsE 2 cellsE_len (A ++ S) j i x (by rw [List.getElem?_append_left hjA]; exact hj) hi
        have hjn : j < n := by rw [← hn, List.length_append]; omega
        rw [← hc4, List.getElem?_take_of_lt (by omega)] at h1
        rw [← h1, List.getElem?_toArray, List.append_assoc, List.getElem?_append_left (by have h9 : cur.toList.length = cur.size := Array.length_toList; rw [List.length_take]; omega), List.getElem?_take_of_lt (by omega)]
      have hh := setRow_heap w g cur (cur.toList.take (A.length * 2) ++ (Builtin.zeroCells #[.int .u64 0, .int .u32 0] S.length).toList ++ cur.toList.drop (A.length * 2 + (Builtin.zeroCells #[.int .u64 0, .int .u32 0] S.length).toList.length)).toArray 62 _ hb
      have k0 := key 0 (by omega)
      have k1 := key 1 (by omega)
      refine ⟨?_, ?_⟩
      · rw [Nat.zero_add]
        exact (Lib.cell_of_heap hh _).trans k0
      · rw [Nat.zero_add]
        exact (Lib.cell_of_heap hh _).trans k1
    · exact below_setRow (Below.refl _ _) hB _
theorem cut_at (g n c q : Nat) (hq : q < c) (hqn : q ≤ n) : ∀ W, (Instr.sliceAt 45 (.slice (some ⟨g, 0, none⟩) n c) (some (.int .i64 (q : Int))) none none).run Try.prog W = .ok (.slice (some ⟨g, q * 2, none⟩) (n - q) (c - q)) W := by
  intro W
  have hT : Try.prog.underlying 45 = some (.slice (Try.prog.elem 45)) := by kernel_rfl
  rw [run_sliceAt_slice (h := hT), run_slice_l (ht := hT) (h0 := by omega) (h1 := by omega), sizeE W]
  simp only [Result.andThen, sliced, Int.toNat_natCast]
  rw [if_neg (by omega)]
  simp only [Option.map_some, add_plain', Nat.zero_add]
theorem cut_head (g n c q : Nat) (hq : q ≤ n) (hc : n ≤ c) (h0 : 0 < c) : ∀ W, (Instr.sliceAt 45 (.slice (some ⟨g, 0, none⟩) n c) none (some (.int .i64 (q : Int))) none).run Try.prog W = .ok (.slice (some ⟨g, 0, none⟩) q c) W := by
  intro W
  have hT : Try.prog.underlying 45 = some (.slice (Try.prog.elem 45)) := by kernel_rfl
  rw [run_sliceAt_slice (h := hT), run_slice_h (ht := hT) (h0 := by omega) (h2 := by omega), sizeE W]
  simp only [Result.andThen, sliced, Int.toNat_natCast]
  rw [if_neg (by omega)]
  simp only [Option.map_some, add_plain', Nat.zero_add, Nat.zero_mul, Nat.sub_zero]
theorem rest_at {α : Type} {A m : List α} {t : Nat} (h : A.length ≤ t) : (A ++ m.drop A.length)[t]? = m[t]? := by
  rw [List.getElem?_append_right h, List.getElem?_drop]
  congr 1
  omega
set_option maxHeartbeats 8000000 in
theorem compactE_any (v : Value) (m : List En) (hm : m.length ≤ 100000) (B : Nat) (w : World) (hB : B ≤ w.heap.size) (hr : RowE 62 w B v m) :
    Calls Try.prog 59 #[v] w fun e w' => ∃ v', e = .returned v' ∧ SlE w' v' (Ld.cmpn m m.length) ∧ Below B w w' := by
  have h0 : w.ownsRow B 62 2 v m.length (m.flatMap cellsE) := hr
  by_cases hs : m.length < 2
  · have hq : Ld.cmpn m m.length = m := by
      match m, hs with
      | [], _ => rfl
      | [x], _ => rfl
      | x :: y :: t, h => simp at h; omega
    rw [hq]
    have HSL := Lib.hid hr.sl
    obtain ⟨a, c, rfl⟩ := hr.slice
    have hs' : (m.length : Int) < 2 := by omega
    clear hr h0
    go_enter Try.func59, Try.ntmps59
    go_wp2
    go_ret
    exact ⟨_, rfl, HSL.out, Below.refl _ _⟩
  · rcases h0.2 with ⟨rfl, hz⟩ | ⟨g, cap, cur, rfl, hBg, hb, hc1, hc2, hc3, hc4⟩
    · omega
    · have HR0 := Lib.hid h0
      have HBG := Lib.hid hBg
      have hs' : ¬ (m.length : Int) < 2 := by omega
      have HCAP : Hid (Cap (.slice (some ⟨g, 0, none⟩) m.length cap)) := ⟨_, _, _, hc1, hc2, fun h => by cases h⟩
      clear hr h0 hb hc2 hc3 hc4 hBg
      go_enter Try.func59, Try.ntmps59
      go_wp2
      go_loopg [3] (m.length - 1) (fun n i wr => ∃ k : Nat, k + 1 ≤ m.length ∧ n = m.length - 1 - k ∧ i = .int .i64 ((k : Int) + 1) ∧ Hid (Ld.cmpn m (k + 1) = m.take (k + 1)) ∧ Hid (wr.ownsRow B 62 2 (.slice (some ⟨g, 0, none⟩) m.length cap) m.length (m.flatMap cellsE)) ∧ Hid (Below B w wr))
      case atStart => exact ⟨0, by omega, by omega, rfl, rfl, HR0.out, Below.refl _ _⟩
      case round =>
        obtain ⟨k, hk, rfl, rfl, HK, HR, HB⟩ := hrel
        by_cases hlt : k + 1 < m.length
        · obtain ⟨x, hx⟩ := some_at (show k < m.length by omega)
          obtain ⟨y, hy⟩ := some_at hlt
          obtain ⟨⟨d0, d1⟩, _⟩ := rowE_at HR.out hx
          obtain ⟨⟨d2, d3⟩, _⟩ := rowE_at HR.out hy
          have hi : (k : Int) + 1 < (m.length : Int) := by omega
          have hi0 : (k : Int) < (m.length : Int) := by omega
          have hk0 : (0 : Int) ≤ (k : Int) := by omega
          have hk1 : (0 : Int) ≤ (k : Int) + 1 := by omega
          have hw1 : IntKind.i64.wrap ((k : Int) + 1 - 1) = (k : Int) := by rw [show (k : Int) + 1 - 1 = k by omega]; exact IntWalk.i64_in _ (by omega)
          have hw0 : IntKind.i64.wrap (k : Int) = (k : Int) := IntWalk.i64_in _ (by omega)
          have ht1 : ((k : Int) + 1).toNat = k + 1 := by omega
          obtain ⟨xt, xp⟩ := x
          obtain ⟨yt, yp⟩ := y
          rcases (show (¬ yt = xt) ∨ (yt = xt ∧ ¬ yp = xp) ∨ (yt = xt ∧ yp = xp) by omega) with hc | ⟨hc0, hc⟩ | ⟨hc0, hc⟩
          case' inl =>
            have hne : ¬ (yt : Int) = (xt : Int) := by omega
            have HN : Hid (Ld.cmpn m (k + 1 + 1) = m.take (k + 1 + 1)) := by show _ = _; rw [Ld.cmpn_next hy hx (fun h => hc (by cases h; rfl)), HK.out, Ld.take_snoc hy]
          case' inr.inl =>
            subst hc0
            have hne : ¬ (yp : Int) = (xp : Int) := by omega
            have HN : Hid (Ld.cmpn m (k + 1 + 1) = m.take (k + 1 + 1)) := by show _ = _; rw [Ld.cmpn_next hy hx (fun h => hc (by cases h; rfl)), HK.out, Ld.take_snoc hy]
          case' inr.inr =>
            subst hc0 hc
            have HC1 := Lib.hid ((Ld.cmpn_same hy hx).trans HK.out)
            obtain ⟨L2, hL2⟩ : ∃ L2, L2 = m.length - (k + 1) := ⟨_, rfl⟩
            have hkc : k + 1 < cap := Nat.lt_of_lt_of_le hlt hc1
            have hcut := cut_at g m.length cap (k + 1) hkc (by omega)
            rw [← hL2, show ((k + 1 : Nat) : Int) = (k : Int) + 1 by omega] at hcut
            clear hx hy
            go_wp2_with fail
            go_quiet (fail)
            all_goals go_wp2
            clear hcut d0 d1 d2 d3
            go_loopg [3, 5] (L2 - 1) (fun n cv iv wr2 => ∃ (i : Nat) (A : List En), i + 1 ≤ L2 ∧ n = L2 - 1 - i ∧ cv = .int .i64 (A.length : Nat) ∧ iv = .int .i64 ((i : Int) + 1) ∧ Hid (A = Ld.cmpn m (k + 1 + (i + 1))) ∧ Hid (A.length + 1 ≤ k + 1 + (i + 1)) ∧ Hid (wr2.ownsRow B 62 2 (.slice (some ⟨g, 0, none⟩) m.length cap) m.length ((A ++ m.drop A.length).flatMap cellsE)) ∧ Hid (Below B w wr2))
            case atStart =>
              have htl : (m.take (k + 1)).length = k + 1 := by rw [List.length_take]; omega
              refine ⟨0, m.take (k + 1), by omega, by omega, by rw [htl]; rfl, rfl, HC1.out.symm, by show _ ≤ _; rw [htl]; omega, ?_, by first | exact HB | exact below_drewN HB.out _⟩
              show World.ownsRow _ _ _ _ _ _ _
              rw [htl, List.take_append_drop]
              first | exact HR.out | exact ownsRow_below HR.out (below_drewN (Below.refl _ _) _)
            case round =>
              obtain ⟨i, A, hi2, rfl, rfl, rfl, HA, HAL, HR2, HB2⟩ := hrel
              have HRL : Hid ((A ++ m.drop A.length).length = m.length) := by have := HAL.out; show _ = _; rw [List.length_append, List.length_drop]; omega
              by_cases hlt2 : i + 1 < L2
              · obtain ⟨o, ho⟩ := some_at (show k + 1 + i < m.length by omega)
                obtain ⟨p, hp⟩ := some_at (show k + 1 + (i + 1) < m.length by omega)
                obtain ⟨z, hz⟩ := some_at (show A.length < m.length by have := HAL.out; omega)
                have hR3 := HR2.out
                rw [← HRL.out] at hR3
                obtain ⟨⟨d0, d1⟩, _⟩ := rowE_at hR3 ((rest_at (by have := HAL.out; omega)).trans ho)
                obtain ⟨⟨d2, d3⟩, _⟩ := rowE_at hR3 ((rest_at (by have := HAL.out; omega)).trans hp)
                obtain ⟨⟨d4, d5⟩, g4, g5⟩ := rowE_at hR3 ((rest_at (Nat.le_refl _)).trans hz)
                rw [show (k + 1 + i) * 2 = (k + 1) * 2 + i * 2 by omega] at d0 d1
                rw [show (k + 1 + (i + 1)) * 2 = (k + 1) * 2 + (i + 1) * 2 by omega] at d2 d3
                have hj : (i : Int) + 1 < (L2 : Int) := by omega
                have hj0 : (i : Int) < (L2 : Int) := by omega
                have hj1 : (0 : Int) ≤ (i : Int) := by omega
                have hj2 : (0 : Int) ≤ (i : Int) + 1 := by omega
                have hv1 : IntKind.i64.wrap ((i : Int) + 1 - 1) = (i : Int) := by rw [show (i : Int) + 1 - 1 = i by omega]; exact IntWalk.i64_in _ (by omega)
                have hv0 : IntKind.i64.wrap (i : Int) = (i : Int) := IntWalk.i64_in _ (by omega)
                have ht2 : ((i : Int) + 1).toNat = i + 1 := by omega
                have hA0 : (0 : Int) ≤ (A.length : Int) := by omega
                have hA1 : (A.length : Int) < (m.length : Int) := by have := HAL.out; omega
                have HDZ : Hid (m.drop A.length = z :: m.drop (A.length + 1)) := by
                  show _ = _
                  rw [List.drop_eq_getElem_cons (by have := HAL.out; omega)]
                  rw [(List.getElem?_eq_some_iff.1 hz).2]
                obtain ⟨ot, op⟩ := o
                obtain ⟨pt, pp⟩ := p
                rcases (show (¬ pt = ot) ∨ (pt = ot ∧ ¬ pp = op) ∨ (pt = ot ∧ pp = op) by omega) with hc | ⟨hc0, hc⟩ | ⟨hc0, hc⟩
                case' inr.inr =>
                  subst hc0 hc
                  have HN := Lib.hid (HA.out.trans (Ld.cmpn_same hp ho).symm)
                  clear ho hp hz hR3 d4 d5 g4 g5
                  go_wp2_with fail
                  go_quiet (fail)
                  all_goals go_wp2
                  go_roundg (L2 - 1 - (i + 1))
                  case measure => omega
                  case rel => exact ⟨i + 1, A, by omega, by omega, rfl, by go_num, HN, by have := HAL.out; show _ ≤ _; omega, by first | exact HR2 | exact ownsRow_below HR2.out (below_drewN (Below.refl _ _) _), by first | exact HB2 | exact below_drewN HB2.out _⟩
                case' inl =>
                  have hne : ¬ (pt : Int) = (ot : Int) := by omega
                  have HN : Hid (A ++ [⟨pt, pp⟩] = Ld.cmpn m (k + 1 + (i + 1) + 1)) := by show _ = _; rw [HA.out]; exact (Ld.cmpn_next hp ho (fun h => hc (by cases h; rfl))).symm
                case' inr.inl =>
                  subst hc0
                  have hne : ¬ (pp : Int) = (op : Int) := by omega
                  have HN : Hid (A ++ [⟨pt, pp⟩] = Ld.cmpn m (k + 1 + (i + 1) + 1)) := by show _ = _; rw [HA.out]; exact (Ld.cmpn_next hp ho (fun h => hc (by cases h; rfl))).symm
                all_goals
                  have HST : Hid (((wr.setCell ⟨g, A.length * 2, none⟩ (.int .u64 pt)).setCell ⟨g, A.length * 2 + 1, none⟩ (.int .u32 pp)).ownsRow B 62 2 (.slice (some ⟨g, 0, none⟩) m.length cap) m.length (List.flatMap cellsE (A ++ [(⟨pt, pp⟩ : En)] ++ m.drop (A ++ [(⟨pt, pp⟩ : En)]).length))) := by
                    have h := hR3
                    rw [HDZ.out] at h
                    have h2 := rowE_set ⟨pt, pp⟩ h
                    rw [show (A ++ [(⟨pt, pp⟩ : En)]).length = A.length + 1 by simp, List.append_assoc, List.singleton_append]
                    have hl : (A ++ (⟨pt, pp⟩ : En) :: m.drop (A.length + 1)).length = m.length := by
                      have := HAL.out
                      simp only [List.length_append, List.length_cons, List.length_drop]; omega
                    rw [hl] at h2
                    exact h2
                  have HBS : Hid (Below B w ((wr.setCell ⟨g, A.length * 2, none⟩ (.int .u64 pt)).setCell ⟨g, A.length * 2 + 1, none⟩ (.int .u32 pp))) := (HB2.out.setCell (p := ⟨g, A.length * 2, none⟩) HBG.out _).setCell (p := ⟨g, A.length * 2 + 1, none⟩) HBG.out _
                  clear ho hp hz hR3 hc HDZ
                  go_wp2_with fail
                  go_quiet (fail)
                  all_goals go_wp2
                  go_roundg (L2 - 1 - (i + 1))
                  case measure => omega
                  case rel => exact ⟨i + 1, A ++ [(⟨pt, pp⟩ : En)], by omega, by omega, by rw [List.length_append]; go_num, by go_num, HN, by have := HAL.out; show _ ≤ _; rw [List.length_append, List.length_singleton]; omega, by first | exact HST | exact ownsRow_below HST.out (below_drewN (Below.refl _ _) _), by first | exact HBS | exact below_drewN HBS.out _⟩
              · have hj : k + 1 + (i + 1) = m.length := by omega
                have hAm : A.length < m.length := by have := HAL.out; omega
                have hAc : A.length < cap := Nat.lt_of_lt_of_le hAm hc1
                have HEND : Hid (A = Ld.cmpn m m.length) := by have h := HA.out; rw [hj] at h; exact h
                obtain ⟨S, hS⟩ : ∃ S, S = m.drop A.length := ⟨_, rfl⟩
                have hSl : S.length = m.length - A.length := by rw [hS, List.length_drop]
                have hR4 := HR2.out
                rw [← hS] at hR4
                have hRl : (A ++ S).length = m.length := by rw [List.length_append, hSl]; omega
                obtain ⟨HCL, HCB⟩ := cleared hR4 hRl
                rw [hSl] at HCL HCB
                have HCL := Lib.hid HCL
                have HCB := Lib.hid (HB2.out.trans HCB)
                have hcl := fun (ty : TypeId) => run_clearE wr ty g (A.length * 2) (m.length - A.length) (cap - A.length) (by omega) (fun j hj => by
                  have h1 := hR4.cellAt (A.length * 2 + j) (by omega)
                  rw [h1, List.getElem?_eq_getElem (by rw [flat_len cellsE 2 cellsE_len, hRl]; omega)]; rfl) (fun j hj => hR4.frozenAt _)
                have hct := cut_at g m.length cap A.length hAc (by omega)
                have hch := cut_head g m.length cap A.length (by omega) hc1 (by omega)
                have hj' : ¬ (i : Int) + 1 < (L2 : Int) := by omega
                generalize hWZ : wr.setCells g (A.length * 2) (Builtin.zeroCells #[.int .u64 0, .int .u32 0] (m.length - A.length)).toList = WZ at HCL HCB hcl
                clear hWZ hR4 hS hSl HRL
                go_wp2
                go_ret
                exact ⟨_, rfl, by rw [← HEND.out]; exact HCL.out, HCB.out⟩
          all_goals
            clear hx hy hc
            go_wp2_with fail
            go_quiet (fail)
            all_goals go_wp2
            go_roundg (m.length - 1 - (k + 1))
            case measure => omega
            case rel => exact ⟨k + 1, by omega, by omega, by go_num, HN, by first | exact HR | exact ownsRow_below HR.out (below_drewN (Below.refl _ _) _), by first | exact HB | exact below_drewN HB.out _⟩
        · have hkk : k + 1 = m.length := by omega
          have HQ : Hid (Ld.cmpn m m.length = m) := by
            have h := HK.out
            rw [hkk, List.take_length] at h
            exact h
          have HSL := Lib.hid (SlE.own HR.out)
          clear hkk
          go_wp2
          go_ret
          exact ⟨_, rfl, by rw [HQ.out]; exact HSL.out, HB.out⟩
end Go.Proofs.Ytgckaecjjoghbaa
/- The contract of slices.Clone, at a row of cells. -/
namespace Go.Proofs.Ytgckaecjjoghbaa
open Go.RowKit
open Sl (Cl Kd)
theorem SlE.takeS {w : World} {b o c c' : Nat} {l : List Ld.En} (h : SlE w (.slice (some ⟨b, o, none⟩) l.length c) l) (q : Nat) (hq : q ≤ l.length) : SlE w (.slice (some ⟨b, o, none⟩) q c') (l.take q) := by
  obtain ⟨a, b1, o1, c1, hv, ha, hx⟩ := h
  simp only [Value.slice.injEq] at hv
  obtain ⟨rfl, _, rfl⟩ := hv
  refine ⟨some ⟨b, o, none⟩, b, o, c', by rw [List.length_take, Nat.min_eq_left hq], .inr rfl, fun j x hj => ?_⟩
  have hjq : j < q ∧ l[j]? = some x := by
    have h1 := (List.getElem?_eq_some_iff.1 hj).1
    rw [List.length_take] at h1
    have h2 : j < q := by omega
    rw [List.getElem?_take_of_lt h2] at hj
    exact ⟨h2, hj⟩
  rcases ha with h0 | h0
  · subst h0; simp at hjq
  · cases h0; exact hx j x hjq.2
theorem SlE.dropS {w : World} {b o c c' : Nat} {l : List Ld.En} (h : SlE w (.slice (some ⟨b, o, none⟩) l.length c) l) (q : Nat) : SlE w (.slice (some ⟨b, o + q * 2, none⟩) (l.length - q) c') (l.drop q) := by
  obtain ⟨a, b1, o1, c1, hv, ha, hx⟩ := h
  simp only [Value.slice.injEq] at hv
  obtain ⟨rfl, _, rfl⟩ := hv
  refine ⟨some ⟨b, o + q * 2, none⟩, b, o + q * 2, c', by rw [List.length_drop], .inr rfl, fun j x hj => ?_⟩
  rw [List.getElem?_drop] at hj
  rcases ha with h0 | h0
  · subst h0; simp at hj
  · cases h0
    have := hx (q + j) x hj
    rw [show o + q * 2 + j * 2 = o + (q + j) * 2 by rw [Nat.add_mul]; omega]
    exact this
theorem SlE.emptyS (w : World) (a : Option Addr) (c : Nat) : SlE w (.slice a 0 c) [] := ⟨a, 0, 0, c, rfl, .inl rfl, fun j x h => by simp at h⟩
theorem cloneE_any (v : Value) (l : List Ld.En) (hll : l.length ≤ 100000) (w : World) (hv : SlE w v l) :
    Calls Try.prog 56 #[v] w (OwnE l w) := by
  obtain ⟨i0, hi, hz0, hz1, hz2⟩ := info_parts infoE
  have q22 : ∀ (w : World) (a : Option Addr) (n c n' c' : Nat), (binOp .eql 45 (.slice a n c) (.slice none n' c')).run Try.prog w = .ok (.bool a.isNone) w := fun w a n c n' c' => Lib.run_eql_slice_nil w _ _ a n c n' c' Try.underlying45
  obtain ⟨a, b, o, c, rfl, ha, hx⟩ := hv
  have HX := Lib.hid (SlE.flat hx)
  have HA := Lib.hid ha
  clear ha hx
  cases a with
  | none =>
    have hl : l = [] := by
      rcases HA.out with h | h
      · exact h
      · cases h
    subst hl
    go_enter Try.func56, Try.ntmps56
    go_wp2
    go_ret
    exact ⟨_, rfl, World.ownsRow_nil _ _ _ _, Below.refl _ _⟩
  | some ad =>
    go_enter Try.func56, Try.ntmps56
    go_wp2_with (at_builtin; refine wpList_append_own _ rfl _ _ 45 rfl w.heap.size 62 i0 _ 2 16 Try.underlying45 hi hz0 hz1 hz2 rfl (by decide) _ _ _ rfl (World.ownsRow_made w #[] 0 (Nat.le_refl _) (Nat.zero_le _) rfl) ad l.length c (l.flatMap cellsE) rfl ?p0 ?p1 ?p2 ?p3 ?p4 ?p5 ?_)
    case p0 => exact flat_len _ _ cellsE_len _
    case p1 =>
      intro j u hj
      rcases HA.out with h | h
      · subst h; simp at hj
      · cases h
        exact Lib.cell?_alloc_some _ (HX.out j u hj)
    case p2 => exact flat_oneE _
    case p3 => unfold maxLen; omega
    case p4 => omega
    case p5 => simp
    intro v' w1 hown hgrow _
    go_wp2
    go_ret
    refine ⟨v', rfl, ?_, ((Below.refl _ w).alloc (Nat.le_refl _) _).grown hgrow (by simp) (by intro k hk; simp [Value.ownBlock] at hk; omega)⟩
    show w1.ownsRow _ _ _ _ _ _
    simpa using hown
end Go.Proofs.Ytgckaecjjoghbaa
/- The contract of a ledger's Sort. -/
namespace Go.Proofs.Ytgckaecjjoghbaa
open Go.RowKit
open Ld (En)
theorem ldSort_any (v : Value) (l : List En) (hl : l.length ≤ 100000) (w : World) (hv : SlE w v l) :
    Calls Try.prog 28 #[v] w fun e w' => ∃ v', e = .returned v' ∧ SlE w' v' (Ld.sortE l) ∧ Below w.heap.size w w' := by
  have HC := Lib.hid (cloneE_any v l hl w hv)
  have HL : Hid (l.length ≤ 100000) := hl
  obtain ⟨a, b, o, c, rfl, _, _⟩ := hv
  go_enter Try.func28, Try.ntmps28
  go_wp2_with (first
    | (go_at_call 56; refine HC.out.mono ?_; rintro e w1 ⟨v1, rfl, hr1, hb1⟩; have HR1 := Lib.hid hr1; have HB1 := Lib.hid hb1; obtain ⟨a1, c1, rfl⟩ := hr1.slice; clear hr1 hb1)
    | (go_at_call 57; refine (sortF_any _ l HL.out w.heap.size _ HR1.out).mono ?_; rintro e w2 ⟨rfl, m, hm, hp, hs, hb2⟩; have HR2 := Lib.hid hm; have HP := Lib.hid (Ld.cmpn_sort l m hp hs); have HB2 := Lib.hid (HB1.out.trans hb2); have HML := Lib.hid (show m.length ≤ 100000 by rw [hp.length_eq]; exact HL.out); clear hm hp hs hb2)
    | (go_at_call 59; refine (compactE_any _ m HML.out w.heap.size _ HB2.out.size HR2.out).mono ?_; rintro e w3 ⟨v3, rfl, hs3, hb3⟩; rw [HP.out] at hs3; have HS3 := Lib.hid hs3; have HB3 := Lib.hid (HB2.out.trans hb3); obtain ⟨a3, b3, o3, c3, rfl, _, _⟩ := hs3; clear hb3))
  go_ret
  exact ⟨_, rfl, HS3.out, HB3.out⟩
end Go.Proofs.Ytgckaecjjoghbaa
/- append of a row of cells to a row of one's own: as a run equation. -/
namespace Go.Proofs.Ytgckaecjjoghbaa
open Go.RowKit
open Sl (Cl Kd)
theorem appE (w : World) (B : Nat) (u v : Value) (l m : List Ld.En) (ty : TypeId) (hB : B ≤ w.heap.size) (hu : RowE 62 w B u l) (hv : SlE w v m) (hc : Cap v) (hl : l.length ≤ 200000) (hm : m.length ≤ 200000) :
    ∃ v' w', (Builtin.append_ #[45, 45] ty #[u, v]).run Try.prog w = .ok v' w' ∧ RowE 62 w' B v' (l ++ m) ∧ w.grownBy w' u.ownBlock ∧ Below B w w' := by
  obtain ⟨i0, hi, hz0, hz1, hz2⟩ := info_parts infoE
  obtain ⟨a, b, o, c, rfl, ha, hx⟩ := hv
  cases a with
  | none =>
    have hc0 : c = 0 := by cases hc with | mk _ _ _ _ _ h0 => exact h0 rfl
    have hm0 : m = [] := by
      rcases ha with h | h
      · exact h
      · cases h
    subst hc0 hm0
    refine ⟨u, w, run_append_owned_none (P := Try.prog) (w := w) B 45 ty 62 i0 2 Try.underlying45 hi u l.length (l.flatMap cellsE) hu, by rw [List.append_nil]; exact hu, ⟨rfl, rfl, rfl, Nat.le_refl _, fun _ _ _ => rfl⟩, Below.refl _ _⟩
  | some ad =>
    obtain ⟨v', w', hr, h2, h3, _, h5⟩ := run_append_own_at (P := Try.prog) w B 45 ty 62 i0 _ 2 16 Try.underlying45 hi hz0 hz1 hz2 rfl (by decide) u l.length (l.flatMap cellsE) hu ad m.length c (m.flatMap cellsE) (flat_len _ _ cellsE_len _) (by
      intro j y hj
      rcases ha with h | h
      · subst h; simp at hj
      · cases h
        exact SlE.flat hx j y hj) (flat_oneE _) (by unfold maxLen; omega) (by omega) hB
    refine ⟨v', w', hr, ?_, h3, (Below.refl _ w).grown h3 hB (fun k hk => (World.ownsRow.lt hu k hk).1)⟩
    show w'.ownsRow _ _ _ _ _ _
    rw [List.flatMap_append, List.length_append]; exact h2
end Go.Proofs.Ytgckaecjjoghbaa
/- The walk of the law LedgerFrames. -/
namespace Go.Proofs.Ytgckaecjjoghbaa
open Go.RowKit
open Ld (En)
theorem mayL_le (l : List En) (old : Nat) : (mayL l old).length ≤ l.length := mayL_len l old
set_option maxHeartbeats 8000000 in
theorem ledger_walk (v : Value) (l : List En) (more : Nat) (vi : Value) (ids : List Nat) (tx old : Nat) (n : Int) (hid : ∀ x ∈ ids, x < 4294967296) (hok : okE l) (hm : more < 65536) (htx : tx < 18446744073709551616) (hn1 : -9223372036854775808 ≤ n) (hn2 : n ≤ 9223372036854775807) (w : World) (hv : SlE w v l) (hvc : Cap v) (hvi : SlN w vi ids) :
    Calls Try.prog 4 #[v, .int .u16 more, vi, .int .u64 tx, .int .u64 old, .int .i64 n] w fun e w' => e = .returned (.bool true) ∧ Below w.heap.size w w' := by
  have HV := Lib.hid hv
  have HVC := Lib.hid hvc
  have HVI := Lib.hid hvi
  have HID := Lib.hid hid
  have HOK := Lib.hid hok
  obtain ⟨a, b, o, c, rfl, _, _⟩ := hv
  obtain ⟨ai, bi, oi, ci, rfl, _, _⟩ := hvi
  clear hvc hid hok
  by_cases h1 : (60 : Int) < l.length
  · go_enter Try.func4, Try.ntmps4
    go_wp2_with (go_at_call 22; refine (ldAwake_any _).mono ?_; rintro e w1 ⟨rfl, hb1⟩; have HB1 := Lib.hid hb1; clear hb1)
    go_ret
    exact ⟨rfl, HB1.out⟩
  · by_cases h2 : (20 : Int) < ids.length
    · go_enter Try.func4, Try.ntmps4
      go_wp2_with (go_at_call 22; refine (ldAwake_any _).mono ?_; rintro e w1 ⟨rfl, hb1⟩; have HB1 := Lib.hid hb1; clear hb1)
      go_ret
      exact ⟨rfl, HB1.out⟩
    · have HL : Hid (l.length ≤ 60) := by show _ ≤ _; omega
      have HIL : Hid (ids.length ≤ 40) := by show _ ≤ _; omega
      go_enter Try.func4, Try.ntmps4
      go_upto_region 5 with (go_at_call 22; refine (ldAwake_any _).mono ?_; rintro e w1 ⟨rfl, hb1⟩; have HB1 := Lib.hid hb1; clear hb1)
      clear h1 h2
      obtain ⟨v2, w2, hrun1, hR2, hg2, hb2⟩ := appE w1 w.heap.size (.slice none 0 0) (.slice a l.length c) [] l 45 HB1.out.size (World.ownsRow_nil _ _ _ _) (HV.out.below HB1.out) HVC.out (by simp) (by have := HL.out; omega)
      rw [List.nil_append] at hR2
      have HR2 := Lib.hid hR2
      have HB2 := Lib.hid (HB1.out.trans hb2)
      clear hR2 hg2 hb2
      go_upto_region 6 with (first
        | (at_builtin; refine Lib.wpList_append_run _ rfl _ _ _ _ rfl _ _ rfl rfl _ _ hrun2 ?_)
        | (go_at_call 23; refine (ldMany_any more tx hm htx _).mono ?_; rintro e w3 ⟨v3, M, rfl, hml, hmo, hmr, hb3⟩; have HML := Lib.hid hml; have HMO := Lib.hid hmo; have HB3 := Lib.hid (HB2.out.trans (hb3.mono HB2.out.size)); have HR3 := Lib.hid (HR2.out.below hb3); obtain ⟨v4, w4, hrun2, hR4, hg4, hb4⟩ := appE w3 w.heap.size v2 v3 l M 45 HB3.out.size HR3.out hmr.sl hmr.cap (by have := HL.out; omega) (by omega); have HR4 := Lib.hid hR4; have HB4 := Lib.hid (HB3.out.trans hb4); clear hml hmo hmr hb3 hR4 hg4 hb4)
        | (at_builtin; refine Lib.wpList_append_run _ rfl _ _ _ _ rfl _ _ rfl rfl _ _ hrun1 ?_))
      clear hrun1 hrun2
      have HAL : Hid ((l ++ M).length ≤ 1000) := by have h1 := HL.out; have h2 := HML.out; show _ ≤ _; rw [List.length_append]; omega
      have HAO : Hid (okE (l ++ M)) := fun x hx => by
        rcases List.mem_append.1 hx with h | h
        · exact HOK.out x h
        · exact HMO.out x h
      generalize l ++ M = ALL at HR4 HAL HAO
      obtain ⟨a4, c4, rfl⟩ := HR4.out.slice
      obtain ⟨E, L, HLL, HFA, HFR⟩ : ∃ (E : Int) (L : List Ld.Fr), Hid (L.length ≤ 40) ∧ Hid (∀ W, Below w4.heap.size w4 W → Calls Try.prog 24 #[.slice a4 ALL.length c4, .slice ai ids.length ci, .int .u64 tx] W (LdGot E L W)) ∧ Hid (∀ W u, SlE W u ALL → Cap u → SlN W (.slice ai ids.length ci) ids → Calls Try.prog 25 #[u, .slice ai ids.length ci, .int .u64 tx] W (LdGot E L W)) := by
        refine ⟨Ld.err ids ALL, if Ld.err ids ALL = 0 then Ld.frs ids tx ALL ids.length else [], ?_, fun W hW => ?_, fun W u h1 h2 h3 => ?_⟩
        · show _ ≤ _
          split
          · rw [Ld.frs_len _ _ _ _ (Nat.le_refl _)]; exact HIL.out
          · exact Nat.zero_le _
        · exact (ldFrames_any _ _ ALL ids tx (by have := HAL.out; omega) HIL.out HID.out HAO.out W (HR4.out.sl.below hW) HR4.out.cap (HVI.out.below (HB4.out.trans (hW.mono HB4.out.size)))).mono fun _ _ h => h.toGot
        · exact (lFrames_any _ _ ALL ids tx (by have := HAL.out; omega) HIL.out HID.out HAO.out W h1 h2 h3).mono fun _ _ h => h.toGot
      have HTO := Lib.hid (fun W (hW : Below w4.heap.size w4 W) => ldTo_any _ ALL (by have := HAL.out; omega) W (HR4.out.sl.below hW))
      have HW4 : Hid (Below w4.heap.size w4 w4) := Below.refl _ _
      clear HR4 HAO
      go_wp2_with (first
        | (go_at_call 25; refine (HFR.out _ _ HR6.out.sl HR6.out.cap (HVI.out.below HB6.out)).mono ?_; rintro e w7 ⟨a', b', o', c', rfl, ha, hx, hb⟩; have HAA' := Lib.hid ha; have HX' := Lib.hid hx; have HX7 := Lib.hid (HX5.out.below (HK6.out.trans (hb.mono HK6.out.size))); have HB7 := Lib.hid (HB6.out.trans (hb.mono HB6.out.size)); clear ha hx hb)
        | (go_at_call 26; refine (HTO.out _ HW5.out).mono ?_; rintro e w6 ⟨v6, rfl, hr6, hb6⟩; have HR6 := Lib.hid hr6; have HK6 := Lib.hid hb6; have HB6 := Lib.hid (HB5.out.trans (hb6.mono HB5.out.size)); obtain ⟨a6, c6, rfl⟩ := hr6.slice; clear hr6 hb6)
        | (go_at_call 24; refine (HFA.out _ HW4.out).mono ?_; rintro e w5 ⟨a5, b5, o5, c5, rfl, ha, hx, hb⟩; have HAA := Lib.hid ha; have HX5 := Lib.hid hx; have HW5 := Lib.hid hb; have HB5 := Lib.hid (HB4.out.trans (hb.mono HB4.out.size)); clear ha hx hb))
      clear HFA HFR HTO
      go_loopg [65] L.length (fun n i wr => ∃ k : Nat, k ≤ L.length ∧ n = L.length - k ∧ i = .int .i64 k ∧ Hid (Below w7.heap.size w7 wr))
      case atStart => exact ⟨0, Nat.zero_le _, rfl, rfl, Below.refl _ _⟩
      case round =>
        obtain ⟨k, hk, rfl, rfl, HB⟩ := hrel
        by_cases hlt : k < L.length
        · obtain ⟨x, hx⟩ : ∃ x, L[k]? = some x := ⟨_, List.getElem?_eq_getElem hlt⟩
          obtain ⟨e0, e1, e2, e3, e4⟩ := HX7.out k x hx
          obtain ⟨y0, y1, y2, y3, y4⟩ := HX'.out k x hx
          have hblt : b5 < w7.heap.size := World.block_lt_of_cell? _ _ e0
          have d0 := (HB.out.cell (p := ⟨b5, o5 + k * 5, none⟩) hblt).trans e0
          have d1 := (HB.out.cell (p := ⟨b5, o5 + k * 5 + 1, none⟩) hblt).trans e1
          have d2 := (HB.out.cell (p := ⟨b5, o5 + k * 5 + 2, none⟩) hblt).trans e2
          have d3 := (HB.out.cell (p := ⟨b5, o5 + k * 5 + 3, none⟩) hblt).trans e3
          have d4 := (HB.out.cell (p := ⟨b5, o5 + k * 5 + 4, none⟩) hblt).trans e4
          have hblt' : b' < w7.heap.size := World.block_lt_of_cell? _ _ y0
          have g0 := (HB.out.cell (p := ⟨b', o' + k * 5, none⟩) hblt').trans y0
          have g1 := (HB.out.cell (p := ⟨b', o' + k * 5 + 1, none⟩) hblt').trans y1
          have g2 := (HB.out.cell (p := ⟨b', o' + k * 5 + 2, none⟩) hblt').trans y2
          have g3 := (HB.out.cell (p := ⟨b', o' + k * 5 + 3, none⟩) hblt').trans y3
          have g4 := (HB.out.cell (p := ⟨b', o' + k * 5 + 4, none⟩) hblt').trans y4
          obtain rfl : a5 = some ⟨b5, o5, none⟩ := HAA.out.resolve_left (by intro h; rw [h] at hlt; cases hlt)
          obtain rfl : a' = some ⟨b', o', none⟩ := HAA'.out.resolve_left (by intro h; rw [h] at hlt; cases hlt)
          have hki : (k : Int) < L.length := by omega
          have hk0 : (0 : Int) ≤ (k : Int) := by omega
          have hll := HLL.out
          clear e0 e1 e2 e3 e4 y0 y1 y2 y3 y4 hx hblt hblt'
          go_wp2
          go_quiet (fail)
          go_wp2
          go_roundg (L.length - (k + 1))
          case measure => omega
          case rel => exact ⟨k + 1, by omega, rfl, by go_num, below_drewN HB.out _⟩
        · have HB8 := Lib.hid (HB7.out.trans (HB.out.mono HB7.out.size))
          go_wp2
          clear hlt hk HB
          go_loopg [19, 80] l.length (fun n sv i wr2 => ∃ (k : Nat) (u : Value), k ≤ l.length ∧ n = l.length - k ∧ i = .int .i64 (k : Nat) ∧ u = sv ∧ Hid (RowN wr2 w.heap.size u (mayL (l.take k) old)) ∧ Hid (Below w.heap.size w wr2))
          case atStart => exact ⟨0, _, Nat.zero_le _, rfl, rfl, rfl, World.ownsRow_nil _ _ _ _, HB8.out⟩
          case round =>
            obtain ⟨i0, hi, hz0, hz1, hz2⟩ := info_parts infoN
            obtain ⟨k, u, hk, rfl, rfl, rfl, HR, HB⟩ := hrel
            by_cases hlt : k < l.length
            · obtain ⟨y, hy⟩ := some_at hlt
              obtain ⟨av, bv, ov, cv, hvv, hav, hxv⟩ := HV.out
              simp only [Value.slice.injEq] at hvv
              obtain ⟨rfl, _, rfl⟩ := hvv
              obtain rfl : a = some ⟨bv, ov, none⟩ := hav.resolve_left (by intro h; rw [h] at hlt; cases hlt)
              obtain ⟨e0, e1⟩ := hxv k y hy
              have hblt : bv < w.heap.size := World.block_lt_of_cell? _ _ e0
              have d0 := (HB.out.cell (p := ⟨bv, ov + k * 2, none⟩) hblt).trans e0
              have d1 := (HB.out.cell (p := ⟨bv, ov + k * 2 + 1, none⟩) hblt).trans e1
              have HS := Lib.hid (mayL_snoc old hy)
              have HLN : Hid ((mayL (l.take k) old).length ≤ 60) := by
                have h1 := mayL_len (l.take k) old
                rw [List.length_take] at h1
                have := HL.out
                show _ ≤ _
                omega
              generalize mayL (l.take k) old = M2 at HR HLN HS
              have hln := HLN.out
              obtain ⟨yt, yp⟩ := y
              clear e0 e1 hy hblt hxv hav
              go_upto_region 20 with fail
              have HR1 : Hid (RowN (wr.alloc (.cells #[.int .u64 yt, .int .u32 yp] 62)) w.heap.size u M2) := HR.out.alloc _
              have HB9 : Hid (Below w.heap.size w (wr.alloc (.cells #[.int .u64 yt, .int .u32 yp] 62))) := HB.out.alloc HB.out.size _
              have y0 : (wr.alloc (.cells #[.int .u64 yt, .int .u32 yp] 62)).cell? ⟨wr.heap.size, 0, none⟩ = some (.int .u64 yt) := World.cell?_alloc_new _ _ _ 0
              have y1 : (wr.alloc (.cells #[.int .u64 yt, .int .u32 yp] 62)).cell? ⟨wr.heap.size, 1, none⟩ = some (.int .u32 yp) := World.cell?_alloc_new _ _ _ 1
              generalize (wr.alloc (.cells #[.int .u64 yt, .int .u32 yp] 62)) = W1 at HR1 HB9 y0 y1 ⊢
              generalize wr.heap.size = q at y0 y1 ⊢
              have hbs := HB9.out.size
              clear d0 d1 HR HB
              by_cases hle : yt ≤ old
              · have hle' : (yt : Int) ≤ (old : Int) := by omega
                have HNS := Lib.hid (HS.out.trans (if_pos hle))
                clear hle
                go_wp2_with (at_builtin; refine wpList_append_own _ rfl _ _ 22 rfl w.heap.size 24 i0 _ 1 4 Try.underlying22 hi hz0 hz1 hz2 rfl (by decide) _ M2.length _ rfl (HR1.out.alloc _) ⟨W1.heap.size, 0, none⟩ 1 1 [.int .u32 yp] rfl rfl (fun j z hj => by rw [add_at]; exact (World.cell?_alloc_new _ _ _ j).trans (by simpa using hj)) (by first | rfl | (intro z hz; simp at hz; subst hz; rfl)) (by first | omega | (simp; omega) | (unfold maxLen; simp; omega) | (unfold maxLen; omega)) (by first | omega | (simp; omega)) (by first | omega | (simp; omega)) ?_; intro v9 w9 hown' hgrow _; have HR9 : Hid (RowN w9 w.heap.size v9 (M2 ++ [yp])) := (by show World.ownsRow _ _ _ _ _ _ _; rw [List.length_append, List.map_append]; simpa [num] using hown'); have HB10 : Hid (Below w.heap.size w w9) := (HB9.out.alloc HB9.out.size _).grown hgrow (by simp; omega) (fun g hg => (HR1.out.lt g hg).1); have sHB10 := HB10.out.size; obtain ⟨a_HR9, c_HR9, hv_HR9⟩ : ∃ a c, v9 = .slice a (M2.length + 1) c := (by obtain ⟨a, c, h⟩ := HR9.out.slice; exact ⟨a, c, by rw [h]; simp⟩); subst hv_HR9; clear hown' hgrow)
                go_roundg (l.length - (k + 1))
                case measure => omega
                case rel => exact ⟨k + 1, _, hlt, rfl, by go_num, rfl, by show RowN _ _ _ _; rw [HNS.out]; exact HR9.out, HB10⟩
              · have hle' : ¬ (yt : Int) ≤ (old : Int) := by omega
                have HNS := Lib.hid (HS.out.trans (if_neg hle))
                clear hle
                go_wp2
                go_roundg (l.length - (k + 1))
                case measure => omega
                case rel => exact ⟨k + 1, _, hlt, rfl, by go_num, rfl, by show RowN _ _ _ _; rw [HNS.out]; exact HR1.out, HB9⟩
            · have hkk : k = l.length := by omega
              have HR5 : Hid (RowN wr w.heap.size u (mayL l old)) := by
                have h := HR.out
                rw [hkk, List.take_length] at h
                exact h
              obtain ⟨am, cm, rfl⟩ := HR5.out.slice
              have HML2 : Hid ((mayL l old).length ≤ 60) := by have h1 := mayL_len l old; have := HL.out; show _ ≤ _; omega
              have HSL : Hid ((Ld.sortE l).length ≤ 50000) := by have h1 := Ld.sortE_len l; have := HL.out; show _ ≤ _; omega
              have HMY := Lib.hid (fun W (hW : Below w.heap.size w W) => ldMay_any _ l old (by have := HL.out; omega) W (HV.out.below hW))
              have HST := Lib.hid (fun W (hW : Below w.heap.size w W) => ldSort_any _ l (by have := HL.out; omega) W (HV.out.below hW))
              have HTL := Lib.hid (fun W (hW : Below w.heap.size w W) => ldTo_any _ l (by have := HL.out; omega) W (HV.out.below hW))
              have HRS := Lib.hid (fun W u (hu : SlE W u l) => lSort_any u l (by have := HL.out; omega) W hu)
              generalize mayL l old = MM at HR5 HML2 HMY
              generalize Ld.sortE l = SS at HST HRS HSL
              have HB10 := Lib.hid HB.out
              clear hkk HR
              by_cases hbig : (1048576 : Int) < n
              case' neg =>
                have HN1 := Lib.hid (fun W => ldNeed_any n hn1 (by omega) W)
                have HN2 := Lib.hid (fun W => lNeed_any n hn1 (by omega) W)
              all_goals
                go_wp2_with (first
                  | (go_at_call 32; refine (HN2.out _).mono ?_; rintro e w17 ⟨rfl, rfl⟩)
                  | (go_at_call 31; refine (HN1.out _).mono ?_; rintro e w16 ⟨rfl, rfl⟩)
                  | (go_at_call 17; refine (psSame_any _ _ MM (by have := HML2.out; omega) _ HR14.out.sl (HR5.out.sl.below HK14.out)).mono ?_; rintro e w15 ⟨rfl, hb15⟩; have HB15 := Lib.hid (HB14.out.trans (hb15.mono HB14.out.size)); clear hb15)
                  | (go_at_call 30; refine (HMY.out _ HB13.out).mono ?_; rintro e w14 ⟨v14, rfl, hr14, hb14⟩; have HR14 := Lib.hid hr14; have HK14 := Lib.hid (HK13.out.trans (hb14.mono HK13.out.size)); have HB14 := Lib.hid (HB13.out.trans (hb14.mono HB13.out.size)); obtain ⟨a14, c14, rfl⟩ := hr14.slice; clear hr14 hb14)
                  | (go_at_call 27; refine (ldSame_any _ _ SS HSL.out _ (HS11.out.below HK12.out) HR12.out.sl).mono ?_; rintro e w13 ⟨rfl, hb13⟩; have HK13 := Lib.hid (HKK12.out.trans (hb13.mono HKK12.out.size)); have HB13 := Lib.hid (HB12.out.trans (hb13.mono HB12.out.size)); clear hb13)
                  | (go_at_call 29; refine (HRS.out _ _ HRT.out.sl).mono ?_; rintro e w12 ⟨v12, rfl, hr12, hb12⟩; have HR12 := Lib.hid hr12; have HK12 := Lib.hid (HKT.out.trans (hb12.mono HKT.out.size)); have HKK12 := Lib.hid (HKKT.out.trans (hb12.mono HKKT.out.size)); have HB12 := Lib.hid (HBT.out.trans (hb12.mono HBT.out.size)); obtain ⟨a12, c12, rfl⟩ := hr12.slice; clear hr12 hb12)
                  | (go_at_call 26; refine (HTL.out _ HB11.out).mono ?_; rintro e wT ⟨vT, rfl, hrT, hbT⟩; have HRT := Lib.hid hrT; have HKT := Lib.hid hbT; have HKKT := Lib.hid (HKK11.out.trans (hbT.mono HKK11.out.size)); have HBT := Lib.hid (HB11.out.trans (hbT.mono HB11.out.size)); obtain ⟨aT, cT, rfl⟩ := hrT.slice; clear hrT hbT)
                  | (go_at_call 28; refine (HST.out _ HB10.out).mono ?_; rintro e w11 ⟨v11, rfl, hs11, hb11⟩; have HS11 := Lib.hid hs11; have HKK11 := Lib.hid hb11; have HB11 := Lib.hid (HB10.out.trans (hb11.mono HB10.out.size)); obtain ⟨a11, b11, o11, c11, rfl, _, _⟩ := hs11; clear hb11))
                go_ret
                exact ⟨rfl, HB15.out⟩
end Go.Proofs.Ytgckaecjjoghbaa
/- A row of cells that is handed in, as the walk takes it. -/
namespace Go.Proofs.Ytgckaecjjoghbaa
open Go.ChangeShapes Go.WideShapes Go.ChangeAt Go.RowKit Go.Deep
open Sl (Cl Kd)
theorem cellsS : Try.prog.cellsOf 9 = 1 ∧ Try.prog.cellsOf 24 = 1 := ⟨by kernel_rfl, by kernel_rfl⟩
instance : Inhabited Cl := ⟨⟨[], [], 0, 0⟩⟩
theorem list4 {α : Type} (l : List α) (h : l.length = 4) : ∃ a b c d, l = [a, b, c, d] := by
  rcases l with _ | ⟨a, _ | ⟨b, _ | ⟨c, _ | ⟨d, _ | ⟨e, l⟩⟩⟩⟩⟩
  all_goals first | (cases h; done) | exact ⟨_, _, _, _, rfl⟩ | (simp at h)
end Go.Proofs.Ytgckaecjjoghbaa
/- A row of entries that is handed in, opened. -/
namespace Go.Proofs.Ytgckaecjjoghbaa
open Go.ChangeShapes Go.WideShapes Go.ChangeAt Go.RowKit Go.Deep
open Ld (En)
theorem cellsEn : Try.prog.cellsOf 62 = 2 ∧ Try.prog.cellsOf 47 = 1 ∧ Try.prog.cellsOf 24 = 1 := ⟨by kernel_rfl, by kernel_rfl, by kernel_rfl⟩
instance inhE : Inhabited En := ⟨⟨0, 0⟩⟩
theorem list2 {α : Type} (l : List α) (h : l.length = 2) : ∃ a b, l = [a, b] := by
  rcases l with _ | ⟨a, _ | ⟨b, _ | ⟨c, l⟩⟩⟩
  all_goals first | (cases h; done) | exact ⟨_, _, rfl⟩ | (simp at h)
theorem bounds_e64 {q : Int} (h : (Lit.int .u64 q).wf = true) : 0 ≤ q ∧ q < 18446744073709551616 := by
  simp [Lit.wf, IntKind.min, IntKind.max, IntKind.signed, IntKind.bits] at h
  omega
theorem bounds_e32 {q : Int} (h : (Lit.int .u32 q).wf = true) : 0 ≤ q ∧ q < 4294967296 := by
  simp [Lit.wf, IntKind.min, IntKind.max, IntKind.signed, IntKind.bits] at h
  omega
theorem bounds_e16 {q : Int} (h : (Lit.int .u16 q).wf = true) : 0 ≤ q ∧ q < 65536 := by
  simp [Lit.wf, IntKind.min, IntKind.max, IntKind.signed, IntKind.bits] at h
  omega
theorem bounds_ei {q : Int} (h : (Lit.int .i64 q).wf = true) : -9223372036854775808 ≤ q ∧ q ≤ 9223372036854775807 := by
  simp [Lit.wf, IntKind.min, IntKind.max, IntKind.signed, IntKind.bits] at h
  omega
set_option maxRecDepth 100000 in
theorem open_entries {H : Type} {enc : TypeId × Value → H} {W : World} {r : Reach} {b0 b1 : Nat} {sp : Nat → Bool} {held : Bool} {v : Value} {d : DataW H} {p : List MemPlace}
    (hv : Value.okWide Try.prog W r b0 45 v) (h : DataW.Trod enc Try.prog W b1 sp held 45 v d p) :
    ∃ l : List En, l.length ≤ maxLen ∧ okE l ∧ SlE W v l ∧ Cap v := by
  obtain ⟨a0, len, cap, rfl⟩ := okWide_slice Try.underlying45 hv
  obtain ⟨fuel, hf⟩ := h
  rcases open_slice Try.underlying45 hf with hcs | ⟨a, len', cap', m, n, D, Pl, hcs, _, hl, hm, hz, _, hcell⟩
  · have hcs := hcs.1
    simp [Value.cells] at hcs
    obtain ⟨rfl, rfl, rfl⟩ := hcs
    exact ⟨[], Nat.zero_le _, fun p hp => by simp at hp, ⟨none, 0, 0, 0, rfl, .inl rfl, fun j p hj => by simp at hj⟩, ⟨none, 0, 0, Nat.le_refl _, Nat.zero_le _, fun _ => rfl⟩⟩
  · simp [Value.cells] at hcs
    obtain ⟨rfl, rfl, rfl⟩ := hcs
    have hlen : len ≤ m := by rw [hz]; split <;> omega
    have each : ∀ i, i < len → ∃ x : En, (x.tx < 18446744073709551616 ∧ x.page < 4294967296) ∧ W.cell? (a.add (i * 2)) = some (.int .u64 x.tx) ∧ W.cell? (a.add (i * 2 + 1)) = some (.int .u32 x.page) := by
      intro i hi
      obtain ⟨cs', h1, h2⟩ := hcell i (by omega)
      rw [cellsEn.1] at h1
      obtain ⟨_, hlen', hcc⟩ := World.cells?_some h1
      obtain ⟨xs, k, hk, hxy, _, hxl, hf'⟩ := DataW.trod_struct Try.underlying62 h2
      obtain ⟨v0, v1, rfl⟩ := list2 cs' hlen'
      obtain ⟨y0, y1, rfl⟩ := list2 xs hxl
      have g0 : DataW.trod enc Try.prog W b1 sp held k 47 ([v0, v1].drop 0 |>.take (Try.prog.cellsOf 47)) = some y0 := hf' 0 _ rfl
      have g1 : DataW.trod enc Try.prog W b1 sp held k 24 ([v0, v1].drop 1 |>.take (Try.prog.cellsOf 24)) = some y1 := hf' 1 _ rfl
      rw [cellsEn.2.1] at g0
      rw [cellsEn.2.2] at g1
      obtain ⟨q, hq, _, wq⟩ := DataW.trod_int Try.underlying47 g0
      obtain ⟨u, hu, _, wu⟩ := DataW.trod_int Try.underlying24 g1
      have c0 := hcc 0 (by omega)
      have c1 := hcc 1 (by omega)
      rw [add_add] at c0 c1
      have hq' : v0 = .int .u64 q := by simpa using hq
      have hu' : v1 = .int .u32 u := by simpa using hu
      obtain ⟨h3, h4⟩ := bounds_e64 wq
      obtain ⟨h5, h6⟩ := bounds_e32 wu
      obtain ⟨N, rfl⟩ := Int.eq_ofNat_of_zero_le h3
      obtain ⟨M, rfl⟩ := Int.eq_ofNat_of_zero_le h5
      refine ⟨⟨N, M⟩, ⟨by show N < _; omega, by show M < _; omega⟩, ?_, ?_⟩
      · rw [← hq']; simpa using c0
      · rw [← hu']; simpa using c1
    by_cases h0 : len = 0
    · subst h0
      exact ⟨[], Nat.zero_le _, fun p hp => by simp at hp, ⟨some a, 0, 0, cap, rfl, .inl rfl, fun j p hj => by simp at hj⟩, ⟨some a, 0, cap, Nat.zero_le _, hm, fun h => by cases h⟩⟩
    · obtain ⟨b, off, spot⟩ := a
      obtain ⟨p0, _, hsp, _⟩ := each 0 (by omega)
      have hspot : spot = none := by simpa [Addr.add] using World.cell?_spot hsp
      subst hspot
      obtain ⟨f, hfx⟩ := choose_lt each
      refine ⟨(List.range len).map f, by simp; omega, ?_, ⟨some ⟨b, off, none⟩, b, off, cap, by simp, .inr rfl, fun j p hj => ?_⟩, ⟨_, len, cap, hl, hm, fun h => by cases h⟩⟩
      · intro p hp
        obtain ⟨i, hi, rfl⟩ := List.mem_map.1 hp
        exact (hfx i (List.mem_range.1 hi)).1
      · have hjl : j < len := by
          have := (List.getElem?_eq_some_iff.1 hj).1
          simpa using this
        simp [hjl] at hj
        subst hj
        obtain ⟨_, c0, c1⟩ := hfx j hjl
        rw [add_plain] at c0 c1
        exact ⟨c0, by rw [Nat.add_assoc]; exact c1⟩
theorem cells_n32 : Try.prog.cellsOf 24 = 1 := by kernel_rfl
theorem open_nums {H : Type} {enc : TypeId × Value → H} {W : World} {r : Reach} {b0 b1 : Nat} {sp : Nat → Bool} {held : Bool} {v : Value} {d : DataW H} {p : List MemPlace}
    (hv : Value.okWide Try.prog W r b0 22 v) (h : DataW.Trod enc Try.prog W b1 sp held 22 v d p) :
    ∃ l : List Nat, l.length ≤ maxLen ∧ (∀ x ∈ l, x < 4294967296) ∧ SlN W v l := by
  obtain ⟨a0, len, cap, rfl⟩ := okWide_slice Try.underlying22 hv
  obtain ⟨fuel, hf⟩ := h
  rcases open_ints Try.underlying22 Try.underlying24 cells_n32 hf with ⟨hcs, _⟩ | ⟨a, len', cap', zs, hcs, _, hl, hm, hz, _, hcell, hw⟩
  · simp [Value.cells] at hcs
    obtain ⟨rfl, rfl, rfl⟩ := hcs
    exact ⟨[], Nat.zero_le _, fun p hp => by simp at hp, none, 0, 0, 0, rfl, .inl rfl, fun j p hj => by simp at hj⟩
  · simp [Value.cells] at hcs
    obtain ⟨rfl, rfl, rfl⟩ := hcs
    have hlen : len ≤ zs.length := by rw [hz]; split <;> omega
    by_cases h0 : len = 0
    · subst h0
      exact ⟨[], Nat.zero_le _, fun p hp => by simp at hp, some a, 0, 0, cap, rfl, .inl rfl, fun j p hj => by simp at hj⟩
    · obtain ⟨b, off, spot⟩ := a
      have hspot : spot = none := by simpa [Addr.add] using World.cell?_spot (hcell 0 (by omega))
      subst hspot
      have hbd : ∀ i, i < len → 0 ≤ zs.getD i 0 ∧ zs.getD i 0 < 4294967296 := by
        intro i hi
        have hmem : zs.getD i 0 ∈ zs := by
          have hiz : i < zs.length := by omega
          rw [List.getD_eq_getElem?_getD, List.getElem?_eq_getElem hiz]
          exact List.getElem_mem _
        exact bounds_e32 (hw _ hmem)
      refine ⟨(List.range len).map fun i => (zs.getD i 0).toNat, by simp; omega, ?_, some ⟨b, off, none⟩, b, off, cap, by simp, .inr rfl, fun j x hj => ?_⟩
      · intro x hx
        obtain ⟨i, hi, rfl⟩ := List.mem_map.1 hx
        have := hbd i (List.mem_range.1 hi)
        omega
      · have hjl : j < len := by
          have := (List.getElem?_eq_some_iff.1 hj).1
          simpa using this
        simp only [List.getElem?_map, List.getElem?_range hjl, Option.map_some, Option.some.injEq] at hj
        subst hj
        have e := hcell j (by omega)
        rw [add_plain] at e
        rw [e]
        have := hbd j hjl
        congr 2
        omega
end Go.Proofs.Ytgckaecjjoghbaa
namespace Go.Proofs.Ytgckaecjjoghbaa.ledgerFrames
open Go.ChangeShapes Go.WideShapes Go.ChangeAt Go.RowKit
open Go.ChangeMaps (open_string shut_string)
theorem own : ownKnob Try.prog.godebug = none := by kernel_rfl
theorem laidOut : laidOutB Try.prog = true := by kernel_rfl
set_option maxRecDepth 100000 in
theorem lifted (os : Os) (started : os.Started) (H : Type) (enc : TypeId × Value → H) :
    ReturnsInHanded {} Try.checked os 4 .any (Rows.ledgerFramesSpec.pre6 enc Try.prog Try.f4 Rows.ledgerFramesRow.domain false) (Rows.ledgerFramesSpec.post enc Try.prog Try.f4 false true false false) := by
  refine returnsInHanded_of_change (C := Try.checked) own started (by kernel_rfl) Try.func4
    (ChangeSpec.witness6 (enc := enc) (C := Try.checked) false ⟨#[], #[.slice none 0 0, .int .u16 0, .slice none 0 0, .int .u64 0, .int .u64 0, .int .i64 0], []⟩ 8 (by kernel_rfl) (by kernel_rfl) (by kernel_rfl) (by kernel_rfl)) ?_
  intro W base args ds gs before hval0 hW hcnd _
  have hval : ∀ (j : Nat) t v, Try.f4.params[j]? = some t → args[j]? = some v → Value.okWide Try.prog W .any base t v := hval0
  have hW' := hW
  obtain ⟨p, q, hA0, hV, rfl, hfz, hnd⟩ := hW
  have hA : DataW.TrodAll enc Try.prog W 0 (fun _ => true) true Try.f4.params.toList args.toList ds p := hA0
  rw [Try.params4] at hA hval
  obtain ⟨v0, vs0, d0, ds0, p0, q0, hargs, rfl, rfl, h0, r0⟩ := trodAll_cons hA
  obtain ⟨v1, vs1, d1, ds1, p1, q1, rfl, rfl, rfl, h1, r1⟩ := trodAll_cons r0
  obtain ⟨v2, vs2, d2, ds2, p2, q2, rfl, rfl, rfl, h2, r2⟩ := trodAll_cons r1
  obtain ⟨v3, vs3, d3, ds3, p3, q3, rfl, rfl, rfl, h3, r3⟩ := trodAll_cons r2
  obtain ⟨v4, vs4, d4, ds4, p4, q4, rfl, rfl, rfl, h4, r4⟩ := trodAll_cons r3
  obtain ⟨v5, vs5, d5, ds5, p5, q5, rfl, rfl, rfl, h5, r5⟩ := trodAll_cons r4
  obtain ⟨rfl, rfl, rfl⟩ := trodAll_nil r5
  obtain rfl : args = #[v0, v1, v2, v3, v4, v5] := by cases args; simp_all
  obtain ⟨rfl, rfl⟩ := trodVars_none hV
  have k0 := h0
  have lt0 : ∀ x ∈ p0, x.block < W.heap.size := by obtain ⟨m, hm⟩ := k0; exact DataW.trod_lt m _ _ _ hm
  have k1 := h1
  have lt1 : ∀ x ∈ p1, x.block < W.heap.size := by obtain ⟨m, hm⟩ := k1; exact DataW.trod_lt m _ _ _ hm
  have k2 := h2
  have lt2 : ∀ x ∈ p2, x.block < W.heap.size := by obtain ⟨m, hm⟩ := k2; exact DataW.trod_lt m _ _ _ hm
  have k3 := h3
  have lt3 : ∀ x ∈ p3, x.block < W.heap.size := by obtain ⟨m, hm⟩ := k3; exact DataW.trod_lt m _ _ _ hm
  have k4 := h4
  have lt4 : ∀ x ∈ p4, x.block < W.heap.size := by obtain ⟨m, hm⟩ := k4; exact DataW.trod_lt m _ _ _ hm
  have k5 := h5
  have lt5 : ∀ x ∈ p5, x.block < W.heap.size := by obtain ⟨m, hm⟩ := k5; exact DataW.trod_lt m _ _ _ hm
  have hv0 := hval 0 45 v0 rfl rfl
  obtain ⟨a1, rfl, _, _, w1⟩ := open_int Try.underlying46 (hval 1 46 v1 rfl rfl) h1
  have hv2 := hval 2 22 v2 rfl rfl
  obtain ⟨a3, rfl, _, _, w3⟩ := open_int Try.underlying47 (hval 3 47 v3 rfl rfl) h3
  obtain ⟨a4, rfl, _, _, w4⟩ := open_int Try.underlying47 (hval 4 47 v4 rfl rfl) h4
  obtain ⟨a5, rfl, _, _, w5⟩ := open_int Try.underlying3 (hval 5 3 v5 rfl rfl) h5
  obtain ⟨l, _, hok, hs, hcp⟩ := open_entries hv0 h0
  obtain ⟨b1, b2⟩ := bounds_e16 w1
  obtain ⟨mr, rfl⟩ := Int.eq_ofNat_of_zero_le b1
  obtain ⟨ids, _, hid, hsi⟩ := open_nums hv2 h2
  obtain ⟨t1, t2⟩ := bounds_e64 w3
  obtain ⟨tx, rfl⟩ := Int.eq_ofNat_of_zero_le t1
  obtain ⟨o1, o2⟩ := bounds_e64 w4
  obtain ⟨ol, rfl⟩ := Int.eq_ofNat_of_zero_le o1
  obtain ⟨n1, n2⟩ := bounds_ei w5
  clear hA0 hval0
  refine ((fun _ => ledger_walk v0 l mr v2 ids tx ol a5 hid hok (by omega) (by omega) n1 n2 W hs hcp hsi) W).mono fun e W' ⟨he, bel⟩ => ?_
  subst he
  exact ⟨_, rfl, _, _, _, [], _, [], hW', trodAll_mk1 (shut_bool Try.underlying4 _), (trodAll_cons_mk (Below.trod laidOut (by kernel_rfl) (of_decide_eq_true (by kernel_rfl)) k0 bel lt0) (trodAll_cons_mk (Below.trod laidOut (by kernel_rfl) (of_decide_eq_true (by kernel_rfl)) k1 bel lt1) (trodAll_cons_mk (Below.trod laidOut (by kernel_rfl) (of_decide_eq_true (by kernel_rfl)) k2 bel lt2) (trodAll_cons_mk (Below.trod laidOut (by kernel_rfl) (of_decide_eq_true (by kernel_rfl)) k3 bel lt3) (trodAll_cons_mk (Below.trod laidOut (by kernel_rfl) (of_decide_eq_true (by kernel_rfl)) k4 bel lt4) (trodAll_cons_mk (Below.trod laidOut (by kernel_rfl) (of_decide_eq_true (by kernel_rfl)) k5 bel lt5) trodAll_mk0)))))), rfl, bel.frame _, fun h => by cases h⟩
theorem over : Rows.ledgerFramesRow.holds Try.pinned (OpenSpec.ofChange Rows.ledgerFramesSpec) :=
  OpenClaim.holds_of_wide 4 Try.f4 rfl rfl rfl rfl rfl rfl rfl ⟨rfl, rfl, rfl, rfl, rfl⟩ rfl rfl rfl rfl rfl (by kernel_rfl) Try.func4 (by kernel_rfl)
    (of_decide_eq_true (by kernel_rfl)) (by unfold Func.isWrapper; first | (rw [if_pos (by decide +kernel)]; kernel_rfl) | (rw [if_neg (by decide +kernel)]; exact ⟨rfl, rfl⟩))
    (fun os started H enc _ => lifted os started H enc)
theorem proved : Rows.LedgerFramesSaid := over
#print axioms proved
end Go.Proofs.Ytgckaecjjoghbaa.ledgerFrames
