/- The contract of the function that makes the table. -/
import Derived.Test.YtghmpoahnkoppaaStep
import Derived.Laws.Rows
namespace Go.Proofs.Ytghmpoahnkoppaa
open Go.RowKit
def zc : Array Value := Array.replicate 256 (.int .u32 0)
@[go_sem] theorem zeroValue25 (w : World) : (zeroValue 25).run Try.prog w = .ok (.agg zc) w := by kernel_rfl
@[go_sem] theorem zeroValue24 (w : World) : (zeroValue 24).run Try.prog w = .ok (.agg zc) w := by kernel_rfl
@[simp, go_sem] theorem zc_size : zc.size = 256 := by kernel_rfl
@[simp, go_sem] theorem zc_ne : zc ≠ #[] := fun h => by have := zc_size; rw [h] at this; cases this
/-- A table of a function's numbers, of which the first k are laid. -/
def tabK (T : Nat → Nat) (k : Nat) : Array Value := ((List.range 256).map fun i => if i < k then Value.int .u32 (T i : Nat) else .int .u32 0).toArray
def tab (T : Nat → Nat) : Array Value := ((List.range 256).map fun i => Value.int .u32 (T i : Nat)).toArray
theorem tabK_zero (T : Nat → Nat) : tabK T 0 = zc := by
  unfold tabK zc
  apply Array.ext'
  simp [List.map_const']
theorem tabK_all (T : Nat → Nat) : tabK T 256 = tab T := by
  have h : ((List.range 256).map fun i => if i < 256 then Value.int .u32 (T i : Nat) else .int .u32 0) = (List.range 256).map fun i => Value.int .u32 (T i : Nat) := by
    apply List.map_congr_left
    intro i hi
    rw [if_pos (List.mem_range.1 hi)]
  exact congrArg List.toArray h
theorem tabK_size (T : Nat → Nat) (k : Nat) : (tabK T k).size = 256 := by simp [tabK]
theorem tab_size (T : Nat → Nat) : (tab T).size = 256 := by simp [tab]
theorem tabK_set (T : Nat → Nat) (k : Nat) : (tabK T k).setIfInBounds k (.int .u32 (T k : Nat)) = tabK T (k + 1) := by
  apply Array.ext (by simp [tabK])
  intro i h1 h2
  have hi : i < 256 := by simpa [tabK] using h2
  by_cases he : k = i
  · subst he
    simp [tabK]
  · rw [Array.getElem_setIfInBounds_ne (by simpa [tabK] using hi) he]
    simp only [tabK, List.getElem_toArray, List.getElem_map, List.getElem_range]
    by_cases hlt : i < k
    · rw [if_pos hlt, if_pos (by omega)]
    · rw [if_neg hlt, if_neg (by omega)]
theorem tab_get (T : Nat → Nat) {i : Nat} (h : i < 256) : (tab T)[i]? = some (.int .u32 (T i : Nat)) := by
  simp [tab, h]
theorem tab_one (T : Nat → Nat) : (tab T).all (·.oneCell') = true := by
  rw [Array.all_eq_true_iff_forall_mem]
  intro v hv
  simp only [tab, List.mem_toArray, List.mem_map] at hv
  obtain ⟨i, _, rfl⟩ := hv
  rfl
theorem info25 : (Try.prog.info? 25).map (·.size) = some 256 := by kernel_rfl
theorem info24 : (Try.prog.info? 24).map (·.size) = some 256 := by kernel_rfl
theorem below_setRow {B g : Nat} {a w : World} (h : Below B a w) (hg : B ≤ g) (cs : Array Value) : Below B a (w.setRow g cs) :=
  ⟨h.os, h.tape, h.output, by simp; exact h.size, fun k hk => (setRow_other w g k cs (by omega)).trans (h.block k hk)⟩
set_option maxRecDepth 100000 in
set_option maxHeartbeats 400000 in
theorem make_any (w : World) :
    Calls Try.prog 9 #[] w fun e w' => e = .returned (.agg (tab Crc.byte)) ∧ Below w.heap.size w w' := by
  go_enter Try.func9, Try.ntmps9
  go_wp2
  go_loopw [4] (fun i wr => ∃ k : Nat, k ≤ 256 ∧ i = .int .i64 k ∧ wr.heap[w.heap.size + 1]? = some (.cells (tabK Crc.byte k) 25 (0, 0)) ∧ wr.heap[w.heap.size]? = some (.cells zc 25 (0, 0)) ∧ Below w.heap.size w wr) (fun i _ => 256 - (intOf i).toNat)
  case atStart =>
    exact ⟨0, by omega, rfl, by rw [tabK_zero]; exact heap_alloc2_new _ _ _, heap_alloc2_old _ _ _, ((Below.refl _ _).alloc (Nat.le_refl _) _).alloc (by simp) _⟩
  case round =>
    obtain ⟨k, hk, rfl, hb1, hb0, hbel⟩ := hrel
    by_cases hlt : k < 256
    · have hd : decide ((k : Int) < 256) = true := decide_eq_true (by omega)
      go_wp2
      go_loop [3, 9] (fun v j => ∃ m : Nat, m ≤ 8 ∧ j = .int .i64 m ∧ v = .int .u32 (Crc.steps m k : Nat)) (fun _ j => 8 - (intOf j).toNat)
      case atStart => exact ⟨0, by omega, rfl, rfl⟩
      case round =>
        obtain ⟨m, hm, rfl, rfl⟩ := hrel
        have hl := Crc.steps_lt (n := k) (by omega) m
        by_cases hlm : m < 8
        · go_wp2_with (go_at_call 24; refine (step_any _ hl _).mono ?_; rintro e w' ⟨rfl, rfl⟩)
          go_round
          case rel => exact ⟨m + 1, by omega, by go_num, rfl⟩
          case measure => simp [intOf]; omega
        · obtain rfl : m = 8 := by omega
          have hc : wr.cell? ⟨w.heap.size + 1, k, none⟩ = some ((tabK Crc.byte k).getD k undef) := by
            rw [cell_of_row _ _ _ _ _ _ hb1]
            simp [tabK_size, hlt]
          have hf : wr.frozen? ⟨w.heap.size + 1, k, none⟩ = false := frozen_of_row _ _ _ _ _ hb1
          go_wp2
          go_roundw
          case rel => exact ⟨k + 1, by omega, by go_num, by rw [← tabK_set]; exact heap_setCell_same _ _ _ _ _ _ hb1, by rw [heap_setCell_other _ _ _ _ (by simp)]; exact hb0, hbel.setCell (by simp) _⟩
          case measure => simp [intOf]; omega
    · obtain rfl : k = 256 := by omega
      rw [tabK_all] at hb1
      go_wp2_with (first
        | (refine wpList_load_row rfl 25 (.tmp 1) rfl (w.heap.size + 1) rfl 25 _ (0, 0) _ hb1 Try.underlying25 rfl (by rw [tab_size]; exact info25) ?_)
        | (refine wpList_store_row rfl 25 (.tmp 0) (.tmp 18) rfl w.heap.size (tab Crc.byte) rfl rfl 25 zc hb0 (by rw [tab_size]; exact info25) (by rw [tab_size, zc_size]) (tab_one _) ?_))
      exact bodyPost_ret (v := .agg (tab Crc.byte)) (results_cell_row rfl _ _ w.heap.size 25 _ (0, 0) _ rfl (setRow_heap _ _ _ _ _ _ hb0) Try.underlying25 rfl (by rw [tab_size]; exact info25)) rfl ⟨rfl, below_setRow hbel (Nat.le_refl _) _⟩
end Go.Proofs.Ytghmpoahnkoppaa
