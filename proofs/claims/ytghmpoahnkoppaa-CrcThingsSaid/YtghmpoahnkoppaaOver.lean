/- The contracts of making a summer: over a table, over none. -/
import Derived.Test.YtghmpoahnkoppaaText
import Derived.Laws.EntriesVeiled
namespace Go.Proofs.Ytghmpoahnkoppaa
open Go.RowKit
/-- A summer over the made table, with the function fv. -/
def IsSum (fv : Value) (v : Value) (w : World) : Prop := ∃ g, v = .agg #[.pointer (some ⟨g, 0, none⟩), fv] ∧ w.heap[g]? = some (.cells (tab Crc.byte) 25 (0, 0))
theorem loadAt_tab (T : Nat → Nat) (g : Nat) (w : World) (hg : w.heap[g]? = some (.cells (tab T) 25 (0, 0))) :
    (Instr.loadAt 25 (.pointer (some ⟨g, 0, none⟩))).run Try.prog w = .ok (.agg (tab T)) w := by
  simp only [Instr.loadAt, Instr.sureAddr, Sem.run_bind, Sem.run_pure, Result.andThen_ok, run_loadVar_row w g 25 25 (tab T) (0, 0) _ hg Try.underlying25 rfl (by rw [tab_size]; exact info25)]
theorem heap_old (w : World) (o : Obj) (i : Nat) (h : i < w.heap.size) : (w.alloc o).heap[i]? = w.heap[i]? := by
  show (w.heap.push o)[i]? = w.heap[i]?
  rw [Array.getElem?_push, if_neg (Nat.ne_of_lt h)]
theorem keeps {w w1 : World} {o : Array Value} {t : TypeId} (hb : Below (w.alloc (.cells o t)).heap.size (w.alloc (.cells o t)) w1) (cs : Array Value) : (w1.alloc (.cells cs 25)).heap[w.heap.size]? = some (.cells o t (0, 0)) := by
  rw [heap_old _ _ _ (by have := hb.size; simp at this; omega), hb.block _ (by simp)]
  exact heap_alloc_new _ _
theorem info38 : (Try.prog.info? 38).map (·.size) = some 2 := by kernel_rfl
theorem info45 : (Try.prog.info? 45).map (·.size) = some 2 := by kernel_rfl
set_option maxHeartbeats 400000 in
theorem over_nil (w : World) :
    Calls Try.prog 16 #[.pointer none, .nilFunc] w fun e w' => (∃ v, e = .returned v ∧ IsSum (.nilFunc) v w') ∧ Below w.heap.size w w' := by
  go_enter Try.func16, Try.ntmps16
  go_wp2_with (first
    | (go_at_call 9; refine (make_any _).mono ?_; rintro e w1 ⟨rfl, hb⟩)
    | (refine wpList_store_row rfl 25 (.tmp 5) (.tmp 6) rfl w1.heap.size (tab Crc.byte) rfl rfl 25 zc (heap_alloc_new _ _) (by rw [tab_size]; exact info25) (by rw [tab_size, zc_size]) (tab_one _) ?_; rw [World.setRow_alloc_new]; have h1 := keeps hb (tab Crc.byte))
    | (refine wpList_store_row rfl 38 (.tmp 4) (.tmp 13) rfl w.heap.size #[.pointer (some ⟨w1.heap.size, 0, none⟩), .nilFunc] rfl rfl 38 #[.pointer none, .nilFunc] h1 info38 rfl (by simp [Value.oneCell']) ?_))
  refine bodyPost_ret (v := .agg #[.pointer (some ⟨w1.heap.size, 0, none⟩), .nilFunc]) ?_ ?_ ?_
  · exact results_cell_row rfl _ _ w.heap.size 38 _ (0, 0) _ rfl (setRow_heap _ _ _ _ _ _ h1) Try.underlying38 rfl info38
  · rfl
  · refine ⟨⟨_, rfl, w1.heap.size, rfl, ?_⟩, ?_⟩
    · rw [setRow_other _ _ _ _ (by have := hb.size; simp at this; omega)]
      exact heap_alloc_new _ _
    · exact below_setRow ((((Below.refl _ _).alloc (Nat.le_refl _) _).trans (hb.mono (by simp))).alloc (by have := hb.size; simp at this; omega) _) (Nat.le_refl _) _
set_option maxHeartbeats 400000 in
theorem over_id (g0 : Nat) (w : World) (hg0 : w.heap[g0]? = some (.cells (tab Crc.byte) 25 (0, 0))) :
    Calls Try.prog 16 #[.pointer (some ⟨g0, 0, none⟩), .func (.func 17) #[] #[]] w fun e w' => (∃ v, e = .returned v ∧ IsSum (.func (.func 17) #[] #[]) v w') ∧ Below w.heap.size w w' := by
  have HG0 := Lib.hid hg0
  have HL0 : Hid (g0 < w.heap.size) := Lib.hid (Array.getElem?_eq_some_iff.1 hg0).1
  clear hg0
  go_enter Try.func16, Try.ntmps16
  go_wp2_with (first
    | (go_at_call 9; refine (make_any _).mono ?_; rintro e w1 ⟨rfl, hb⟩)
    | (refine wpList_store_row rfl 25 (.tmp 5) (.tmp 6) rfl w1.heap.size (tab Crc.byte) rfl rfl 25 zc (heap_alloc_new _ _) (by rw [tab_size]; exact info25) (by rw [tab_size, zc_size]) (tab_one _) ?_; rw [World.setRow_alloc_new]; have h1 := keeps hb (tab Crc.byte))
    | (refine wpList_load_row rfl 25 (.tmp 10) rfl g0 rfl 25 (tab Crc.byte) (0, 0) _ (by rw [heap_old _ _ _ (Nat.lt_of_lt_of_le HL0.out (by have := hb.size; simp at this; omega)), hb.block _ (by simp; have := HL0.out; omega), heap_old _ _ _ HL0.out]; exact HG0.out) Try.underlying25 rfl (by rw [tab_size]; exact info25) ?_)
    | (refine wpList_store_row rfl 25 (.tmp 5) (.tmp 11) rfl w1.heap.size (tab Crc.byte) rfl rfl 25 (tab Crc.byte) (heap_alloc_new _ _) (by rw [tab_size]; exact info25) rfl (tab_one _) ?_; rw [World.setRow_alloc_new])
    | (refine wpList_store_row rfl 38 (.tmp 4) (.tmp 13) rfl w.heap.size #[.pointer (some ⟨w1.heap.size, 0, none⟩), .func (.func 17) #[] #[]] rfl rfl 38 #[.pointer none, .nilFunc] h1 info38 rfl (by simp [Value.oneCell']) ?_))
  refine bodyPost_ret (v := .agg #[.pointer (some ⟨w1.heap.size, 0, none⟩), .func (.func 17) #[] #[]]) ?_ ?_ ?_
  · exact results_cell_row rfl _ _ w.heap.size 38 _ (0, 0) _ rfl (setRow_heap _ _ _ _ _ _ h1) Try.underlying38 rfl info38
  · rfl
  · refine ⟨⟨_, rfl, w1.heap.size, rfl, ?_⟩, ?_⟩
    · rw [setRow_other _ _ _ _ (by have := hb.size; simp at this; omega)]
      exact heap_alloc_new _ _
    · exact below_setRow ((((Below.refl _ _).alloc (Nat.le_refl _) _).trans (hb.mono (by simp))).alloc (by have := hb.size; simp at this; omega) _) (Nat.le_refl _) _
set_option maxHeartbeats 400000 in
theorem over_two (g0 : Nat) (w : World) (hg0 : w.heap[g0]? = some (.cells (tab Crc.byte) 25 (0, 0))) :
    Calls Try.prog 19 #[.pointer (some ⟨g0, 0, none⟩), .func (.func 18) #[] #[]] w fun e w' => (∃ v, e = .returned v ∧ IsSum (.func (.func 18) #[] #[]) v w') ∧ Below w.heap.size w w' := by
  have HG0 := Lib.hid hg0
  have HL0 : Hid (g0 < w.heap.size) := Lib.hid (Array.getElem?_eq_some_iff.1 hg0).1
  clear hg0
  go_enter Try.func19, Try.ntmps19
  go_wp2_with (first
    | (go_at_call 9; refine (make_any _).mono ?_; rintro e w1 ⟨rfl, hb⟩)
    | (refine wpList_store_row rfl 25 (.tmp 5) (.tmp 6) rfl w1.heap.size (tab Crc.byte) rfl rfl 25 zc (heap_alloc_new _ _) (by rw [tab_size]; exact info25) (by rw [tab_size, zc_size]) (tab_one _) ?_; rw [World.setRow_alloc_new]; have h1 := keeps hb (tab Crc.byte))
    | (refine wpList_load_row rfl 25 (.tmp 10) rfl g0 rfl 25 (tab Crc.byte) (0, 0) _ (by rw [heap_old _ _ _ (Nat.lt_of_lt_of_le HL0.out (by have := hb.size; simp at this; omega)), hb.block _ (by simp; have := HL0.out; omega), heap_old _ _ _ HL0.out]; exact HG0.out) Try.underlying25 rfl (by rw [tab_size]; exact info25) ?_)
    | (refine wpList_store_row rfl 25 (.tmp 5) (.tmp 11) rfl w1.heap.size (tab Crc.byte) rfl rfl 25 (tab Crc.byte) (heap_alloc_new _ _) (by rw [tab_size]; exact info25) rfl (tab_one _) ?_; rw [World.setRow_alloc_new])
    | (refine wpList_store_row rfl 45 (.tmp 4) (.tmp 13) rfl w.heap.size #[.pointer (some ⟨w1.heap.size, 0, none⟩), .func (.func 18) #[] #[]] rfl rfl 45 #[.pointer none, .nilFunc] h1 info45 rfl (by simp [Value.oneCell']) ?_))
  refine bodyPost_ret (v := .agg #[.pointer (some ⟨w1.heap.size, 0, none⟩), .func (.func 18) #[] #[]]) ?_ ?_ ?_
  · exact results_cell_row rfl _ _ w.heap.size 45 _ (0, 0) _ rfl (setRow_heap _ _ _ _ _ _ h1) Try.underlying45 rfl info45
  · rfl
  · refine ⟨⟨_, rfl, w1.heap.size, rfl, ?_⟩, ?_⟩
    · rw [setRow_other _ _ _ _ (by have := hb.size; simp at this; omega)]
      exact heap_alloc_new _ _
    · exact below_setRow ((((Below.refl _ _).alloc (Nat.le_refl _) _).trans (hb.mono (by simp))).alloc (by have := hb.size; simp at this; omega) _) (Nat.le_refl _) _
end Go.Proofs.Ytghmpoahnkoppaa
