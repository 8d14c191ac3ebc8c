/- Texts of one seat, merged. -/
import Derived.Test.YtoekggbbkcmknaaGreatDoorY03
import Derived.Lib.OthersKept
import Derived.LoopTactic
import Derived.Shelf.Strings.Builder1
import Derived.Shelf.Small.Strs
import Derived.Test.YtoekggbbkcmknaaGreatDoorProg
import Derived.Test.YtoekggbbkcmknaaGreatDoorY01
import Derived.Lib.Builder
import Derived.Lib.AppendStr
set_option maxRecDepth 100000
set_option maxHeartbeats 4000000
set_option linter.unusedVariables false
/- The forms, gone through sign by sign. -/
namespace Go.Proofs.YtoekggbbkcmknaaGreatDoor
open Go.RowKit
/-- What the forms are. -/
def Forms (w : World) : Prop := ∀ k : Int, 1 ≤ k → k ≤ 13 → w.cell? ⟨0, k.toNat, none⟩ = some (.string (formS k))
theorem Forms.below {B : Nat} {w w' : World} (h : Forms w) (hb : Below B w w') (h0 : 0 < B) : Forms w' := fun k h1 h2 => (hb.cell (p := ⟨0, k.toNat, none⟩) h0).trans (h k h1 h2)
theorem Forms.keep {w w' : World} (h : Forms w) (hb : w'.heap[0]? = w.heap[0]?) : Forms w' := fun k h1 h2 => by rw [World.cell?_of_block (w := w) hb]; exact h k h1 h2
theorem Forms.lt {w : World} (h : Forms w) : 0 < w.heap.size := World.block_lt_of_cell? _ _ (h 1 (by decide) (by decide))
theorem Forms.alloc {w : World} (h : Forms w) (o : Obj) : Forms (w.alloc o) := h.below ((Below.refl _ _).alloc (Nat.le_refl _) o) h.lt
theorem formS_size (k : Int) : (formS k).size = (form k).length := by unfold formS; rw [str_size, List.length_map]
theorem formS_code (k : Int) (m : Nat) (s : Sg) (h : (form k)[m]? = some s) (hm : m < (formS k).size) : (formS k)[m]'hm = s.code := by
  have h3 : (form k)[m]'(List.getElem?_eq_some_iff.1 h).1 = s := (List.getElem?_eq_some_iff.1 h).2
  have h4 : (formS k)[m]'hm = ((form k).map Sg.code)[m]'(by rw [List.length_map]; exact (List.getElem?_eq_some_iff.1 h).1) := rfl
  rw [h4, List.getElem_map, h3]
theorem formS_at (k : Int) (m : Nat) (s : Sg) (h : (form k)[m]? = some s) (hm : m < (formS k).size) : ((((formS k)[m]'hm).toNat : Nat) : Int) = scode s := by
  rw [formS_code k m s h hm]
  cases s <;> rfl
theorem code_ascii (s : Sg) : s.code.toNat < 128 := by cases s <;> decide
theorem next_sign (P : Program) (w : World) (i : Nat) (k : Int) (m : Nat) (s : Sg) (ty : TypeId) (hk : w.heap[i]? = some (.stringIter (formS k) m)) (h : (form k)[m]? = some s) :
    (Instr.next (.pointer (some ⟨i, 0, none⟩)) true ty).run P w = .ok (.tuple #[.bool true, .int .i64 m, .int .i32 (scode s)]) (w.iterAt i (formS k) (m + 1)) := by
  have hm : m < (formS k).size := by rw [formS_size]; exact (List.getElem?_eq_some_iff.1 h).1
  have h2 := formS_at k m s h hm
  rw [Lib.run_next_ascii_at w i (formS k) m ty hk hm (by rw [formS_code k m s h hm]; exact code_ascii s), h2]
theorem next_end (P : Program) (w : World) (i : Nat) (k : Int) (ty : TypeId) (hk : w.heap[i]? = some (.stringIter (formS k) (form k).length)) :
    (Instr.next (.pointer (some ⟨i, 0, none⟩)) true ty).run P w = .ok (.tuple #[.bool false]) w := Lib.run_next_end_at w i (formS k) _ ty hk (by rw [formS_size]; exact Nat.lt_irrefl _)
/-- An iterator that goes on writes in its own block alone. -/
theorem iter_upd (w : World) (i : Nat) (s : ByteArray) (m : Nat) : Upd i w (w.iterAt i s m) := ⟨rfl, rfl, rfl, Lib.iterAt_size w i s m, fun k hk => Lib.iterAt_other w i k s m hk⟩
theorem fold_snoc {α : Type} (f : α → Sg → α) (l : List Sg) (m : Nat) (s : Sg) (z : α) (h : l[m]? = some s) : (l.take (m + 1)).foldl f z = f ((l.take m).foldl f z) s := by
  rw [List.take_add_one, h]; simp
theorem iter_alloc (w : World) (s : ByteArray) (m : Nat) : w.iter s m = w.alloc (.stringIter s m) := rfl
theorem iter_below {B : Nat} {u w : World} (h : Below B u w) (hB : B ≤ w.heap.size) (s : ByteArray) (m : Nat) : Below B u (w.iter s m) := h.alloc hB _
theorem BxC.iter {w : World} {g : Nat} {c : Cm} (h : BxC w g c) (s : ByteArray) (m : Nat) : BxC (w.iter s m) g c := h.alloc _
theorem iter_at (w : World) (s : ByteArray) (m : Nat) : (w.iter s m).heap[w.heap.size]? = some (.stringIter s m) := World.iter_heap w s m
theorem BxC.all {w : World} {g : Nat} {c : Cm} (h : BxC w g c) : w.cell? ⟨g, 0, none⟩ = some (.int .i64 c.kind) ∧ w.cell? ⟨g, 1, none⟩ = some (.string c.qn) ∧ w.cell? ⟨g, 2, none⟩ = some (.int .u32 c.most) ∧ w.cell? ⟨g, 3, none⟩ = some (.int .u64 c.ttl) ∧ w.cell? ⟨g, 4, none⟩ = some (.int .u32 c.tries) ∧ w.cell? ⟨g, 5, none⟩ = some (.string c.qd) ∧ w.cell? ⟨g, 6, none⟩ = some (.string c.bx) ∧ w.cell? ⟨g, 7, none⟩ = some (.int .i64 c.bk) ∧ w.cell? ⟨g, 8, none⟩ = some (.string c.bp) ∧ w.cell? ⟨g, 9, none⟩ = some (.string c.bq) ∧ w.cell? ⟨g, 10, none⟩ = some (.string c.ex) ∧ w.cell? ⟨g, 11, none⟩ = some (.string c.key) ∧ w.cell? ⟨g, 12, none⟩ = some (.string c.body) ∧ w.cell? ⟨g, 13, none⟩ = some (.int .u64 c.id) ∧ w.cell? ⟨g, 14, none⟩ = some (.int .u64 c.token) ∧ w.cell? ⟨g, 15, none⟩ = some (.int .u64 c.n) ∧ w.cell? ⟨g, 16, none⟩ = some (.int .u64 c.time) ∧ w.cell? ⟨g, 17, none⟩ = some (.bool c.dead) :=
  ⟨h.cell 0 _ rfl, h.cell 1 _ rfl, h.cell 2 _ rfl, h.cell 3 _ rfl, h.cell 4 _ rfl, h.cell 5 _ rfl, h.cell 6 _ rfl, h.cell 7 _ rfl, h.cell 8 _ rfl, h.cell 9 _ rfl, h.cell 10 _ rfl, h.cell 11 _ rfl, h.cell 12 _ rfl, h.cell 13 _ rfl, h.cell 14 _ rfl, h.cell 15 _ rfl, h.cell 16 _ rfl, h.cell 17 _ rfl⟩
theorem BxC.allF {w : World} {g : Nat} {c : Cm} (h : BxC w g c) : w.frozen? ⟨g, 0, none⟩ = false ∧ w.frozen? ⟨g, 1, none⟩ = false ∧ w.frozen? ⟨g, 2, none⟩ = false ∧ w.frozen? ⟨g, 3, none⟩ = false ∧ w.frozen? ⟨g, 4, none⟩ = false ∧ w.frozen? ⟨g, 5, none⟩ = false ∧ w.frozen? ⟨g, 6, none⟩ = false ∧ w.frozen? ⟨g, 7, none⟩ = false ∧ w.frozen? ⟨g, 8, none⟩ = false ∧ w.frozen? ⟨g, 9, none⟩ = false ∧ w.frozen? ⟨g, 10, none⟩ = false ∧ w.frozen? ⟨g, 11, none⟩ = false ∧ w.frozen? ⟨g, 12, none⟩ = false ∧ w.frozen? ⟨g, 13, none⟩ = false ∧ w.frozen? ⟨g, 14, none⟩ = false ∧ w.frozen? ⟨g, 15, none⟩ = false ∧ w.frozen? ⟨g, 16, none⟩ = false ∧ w.frozen? ⟨g, 17, none⟩ = false :=
  ⟨h.free 0 (by decide), h.free 1 (by decide), h.free 2 (by decide), h.free 3 (by decide), h.free 4 (by decide), h.free 5 (by decide), h.free 6 (by decide), h.free 7 (by decide), h.free 8 (by decide), h.free 9 (by decide), h.free 10 (by decide), h.free 11 (by decide), h.free 12 (by decide), h.free 13 (by decide), h.free 14 (by decide), h.free 15 (by decide), h.free 16 (by decide), h.free 17 (by decide)⟩
/-- A command that is stored into a box. -/
theorem BxC.stored {w : World} {g : Nat} {d : Cm} (h : BxC w g d) (c : Cm) : BxC (setFrom w g 0 c.vals) g c ∧ Upd g w (setFrom w g 0 c.vals) := ⟨(h.v.set (vs := c.vals) rfl).c, setFrom_upd g _ w 0⟩
end Go.Proofs.YtoekggbbkcmknaaGreatDoor
/- A part's functions, taken out. -/
namespace Go.Proofs.YtoekggbbkcmknaaGreatDoor
open Go.RowKit
variable (fh fl fp fg : FuncId) (ch cl cp cg : Array Value) (w : World)
theorem fpart0 : (Instr.field 105 (.agg #[.func (.func fh) #[] ch, .func (.func fl) #[] cl, .func (.func fp) #[] cp, .func (.func fg) #[] cg]) 0).run Tryz.prog w = .ok (.func (.func fh) #[] ch) w := by
  simp [Instr.field, go_sem, asAgg]
theorem fpart1 : (Instr.field 105 (.agg #[.func (.func fh) #[] ch, .func (.func fl) #[] cl, .func (.func fp) #[] cp, .func (.func fg) #[] cg]) 1).run Tryz.prog w = .ok (.func (.func fl) #[] cl) w := by
  simp [Instr.field, go_sem, asAgg]
theorem fpart2 : (Instr.field 105 (.agg #[.func (.func fh) #[] ch, .func (.func fl) #[] cl, .func (.func fp) #[] cp, .func (.func fg) #[] cg]) 2).run Tryz.prog w = .ok (.func (.func fp) #[] cp) w := by
  simp [Instr.field, go_sem, asAgg]
theorem fpart3 : (Instr.field 105 (.agg #[.func (.func fh) #[] ch, .func (.func fl) #[] cl, .func (.func fp) #[] cp, .func (.func fg) #[] cg]) 3).run Tryz.prog w = .ok (.func (.func fg) #[] cg) w := by
  simp [Instr.field, go_sem, asAgg]
end Go.Proofs.YtoekggbbkcmknaaGreatDoor
/- Commands as one value: what is loaded, stored, laid, compared whole. -/
namespace Go.Proofs.YtoekggbbkcmknaaGreatDoor
open Go.RowKit
theorem vals_one (c : Cm) : ∀ v ∈ c.vals, v.oneCell' = true := by intro v hv; simp [Cm.vals] at hv; rcases hv with rfl | rfl | rfl | rfl | rfl | rfl | rfl | rfl | rfl | rfl | rfl | rfl | rfl | rfl | rfl | rfl | rfl | rfl <;> rfl
theorem agg_cells (c : Cm) : c.agg.cells = c.vals.toArray := rfl
theorem add_off (g o j : Nat) : (⟨g, o, none⟩ : Addr).add j = ⟨g, o + j, none⟩ := by
  unfold Addr.add; split <;> simp_all
theorem storeCells_set (P : Program) (g : Nat) : ∀ (l : List Value) (o : Nat) (w : World), (∀ v ∈ l, v.oneCell' = true) → (∀ j, j < l.length → (w.cell? ⟨g, o + j, none⟩).isSome ∧ w.frozen? ⟨g, o + j, none⟩ = false) →
    (storeCells ⟨g, 0, none⟩ l o).run P w = .ok () (setFrom w g o l)
  | [], o, w, _, _ => rfl
  | v :: l, o, w, h1, h2 => by
    have h0 := h2 0 (by simp)
    obtain ⟨u, hu⟩ := Option.isSome_iff_exists.1 h0.1
    rw [Nat.add_zero] at hu
    have hf := h0.2
    rw [Nat.add_zero] at hf
    have hst : (store ((⟨g, 0, none⟩ : Addr).add o) v).run P w = .ok () (w.setCell ⟨g, o, none⟩ v) := by
      rw [add_off, Nat.zero_add, run_store P w _ v _ (h1 v (by simp)), hu]
      simp [hf]
    simp only [storeCells, Sem.run_bind, hst, Result.andThen_ok]
    refine storeCells_set P g l (o + 1) _ (fun x hx => h1 x (by simp [hx])) (fun j hj => ?_)
    have h3 := h2 (j + 1) (by simpa using hj)
    rw [show o + (j + 1) = o + 1 + j by omega] at h3
    rw [World.cell?_setCell_other _ _ _ _ (fun e => by injection e with _ e; omega), World.frozen?_setCell]
    exact h3
theorem info_size {T : TypeId} {n : Nat} (h : (Tryz.prog.info? T).map (fun i => i.size) = some n) : ∃ i, Tryz.prog.info? T = some i ∧ i.size = n := by
  cases hq : Tryz.prog.info? T with
  | none => simp [hq] at h
  | some i => exact ⟨i, rfl, by simpa [hq] using h⟩
def zeroC : Sem Value := zeroValue 32
def newC (v : Value) : Sem Addr := newVar 32 v
def loadC (a : Addr) : Sem Value := loadVar 32 a
def storeC (a : Addr) (v : Value) : Sem Unit := storeVar 32 a v
def buildC (ps : Array (Nat × Value)) : Sem Value := Instr.build 32 ps
theorem zeroC_eq : zeroValue 32 = zeroC := rfl
theorem newC_eq (v : Value) : newVar 32 v = newC v := rfl
theorem loadC_eq (a : Addr) : loadVar 32 a = loadC a := rfl
theorem storeC_eq (a : Addr) (v : Value) : storeVar 32 a v = storeC a v := rfl
theorem buildC_eq (ps : Array (Nat × Value)) : Instr.build 32 ps = buildC ps := rfl
/-- A command as it lies. -/
def objC (c : Cm) : Obj := .cells c.vals.toArray 32
theorem sizeC : (Tryz.prog.info? 32).map (fun i => i.size) = some 18 := by kernel_rfl
theorem zeroC_val : (Tryz.prog.info? 32).bind (fun i => i.zero) = some (Cm.zero 0).agg := by kernel_rfl
theorem run_zeroC (w : World) : zeroC.run Tryz.prog w = .ok (Cm.zero 0).agg w := by
  unfold zeroC zeroValue typeInfo
  cases hq : Tryz.prog.info? 32 with
  | none => have := zeroC_val; simp [hq] at this
  | some i =>
    have hz : i.zero = some (Cm.zero 0).agg := by have := zeroC_val; simpa [hq] using this
    simp [Sem.run_bind, hq, hz]
theorem run_newC (c : Cm) (w : World) : (newC c.agg).run Tryz.prog w = .ok ⟨w.heap.size, 0, none⟩ (w.alloc (objC c)) := by
  rfl
theorem run_loadC {w : World} {g : Nat} {c : Cm} (h : BxC w g c) : (loadC ⟨g, 0, none⟩).run Tryz.prog w = .ok c.agg w := by
  obtain ⟨i, hq, hs⟩ := info_size sizeC
  have hl : (loadCells ⟨g, 0, none⟩ c.vals.length).run Tryz.prog w = .ok c.vals.toArray w :=
    run_loadCells_list (P := Tryz.prog) w ⟨g, 0, none⟩ c.vals (fun j v hv => by rw [add_off, Nat.zero_add]; exact h.cell j v hv)
  have hl' : (loadCells ⟨g, 0, none⟩ 18).run Tryz.prog w = .ok c.vals.toArray w := hl
  have hagg : (isAgg 32).run Tryz.prog w = .ok true w := by
    unfold isAgg
    rw [Sem.run_bind, run_underlying Tryz.underlying32 w]
    simp
  unfold loadC loadVar
  simp only [Sem.run_bind, hagg, Result.andThen_ok, if_true, sizeOf, typeInfo]
  simp [hs, hl', hq]
  rfl
theorem run_storeC {w : World} {g : Nat} {d : Cm} (h : BxC w g d) (c : Cm) : (storeC ⟨g, 0, none⟩ c.agg).run Tryz.prog w = .ok () (setFrom w g 0 c.vals) := by
  obtain ⟨i, hq, hs⟩ := info_size sizeC
  have h1 := storeCells_set Tryz.prog g c.vals 0 w (vals_one c) (fun j hj => by
    have hj' : j < d.vals.length := hj
    refine ⟨?_, ?_⟩
    · rw [Nat.zero_add, h.cell j _ (List.getElem?_eq_getElem hj')]; rfl
    · rw [Nat.zero_add]; exact h.free j hj)
  unfold storeC storeVar
  rw [agg_cells]
  have hsz : c.vals.toArray.size = 18 := rfl
  simp [sizeOf, typeInfo, hq, hs, hsz, h1]
theorem run_buildC0 (w : World) : (buildC #[]).run Tryz.prog w = .ok (Cm.zero 0).agg w := by
  unfold buildC
  simp [go_sem]
  rfl
theorem run_buildC1 (k : Int) (w : World) : (buildC #[(0, .int .i64 k)]).run Tryz.prog w = .ok (Cm.zero k).agg w := by
  unfold buildC
  simp [go_sem]
  rfl
theorem run_neqC (c d : Cm) (w : World) : (binOp .neq 32 c.agg d.agg).run Tryz.prog w = .ok (.bool (!decide (c = d))) w := by
  show (binOp .neq 32 (.agg _) (.agg _)).run Tryz.prog w = _
  rw [run_neq_struct]
  have := eqAgg c d w
  unfold Cm.agg at this
  rw [this]
  rfl
theorem run_eqlC (c d : Cm) (w : World) : (binOp .eql 32 c.agg d.agg).run Tryz.prog w = .ok (.bool (decide (c = d))) w := by
  show (binOp .eql 32 (.agg _) (.agg _)).run Tryz.prog w = _
  rw [run_eql_struct]
  have := eqAgg c d w
  unfold Cm.agg at this
  rw [this]
  rfl
theorem run_guardC (op : BinOp) (x y : Operand) (c d : Cm) (w : World) : (eqGuard op 32 x y c.agg d.agg).run Tryz.prog w = .ok () w := by
  show (eqGuard op 32 x y (.agg _) (.agg _)).run Tryz.prog w = _
  exact run_eqGuard_agg w op 32 x y _ _ (by kernel_rfl)
theorem resC {fn : Func} {p : Tmp} (h : fn.results = #[.cell p 32]) (tmps : Array Value) {w : World} {g : Nat} {v : Value} (hp : tmps.getD p undef = .pointer (some ⟨g, 0, none⟩)) (hl : (loadC ⟨g, 0, none⟩).run Tryz.prog w = .ok v w) :
    (results fn tmps).run Tryz.prog w = .ok v w := by
  have hp' : tmps[p]?.getD undef = .pointer (some ⟨g, 0, none⟩) := by simpa using hp
  have hl' : (loadVar 32 ⟨g, 0, none⟩).run Tryz.prog w = .ok v w := hl
  simp [results, h, hp', asAddr, hl']
theorem BxC.newC (w : World) (c : Cm) : BxC (w.alloc (objC c)) w.heap.size c := BxC.new w c 32
def zeroR : Sem Value := zeroValue 40
def newR (v : Value) : Sem Addr := newVar 40 v
def loadR (a : Addr) : Sem Value := loadVar 40 a
def storeR (a : Addr) (v : Value) : Sem Unit := storeVar 40 a v
def buildR (ps : Array (Nat × Value)) : Sem Value := Instr.build 40 ps
theorem zeroR_eq : zeroValue 40 = zeroR := rfl
theorem newR_eq (v : Value) : newVar 40 v = newR v := rfl
theorem loadR_eq (a : Addr) : loadVar 40 a = loadR a := rfl
theorem storeR_eq (a : Addr) (v : Value) : storeVar 40 a v = storeR a v := rfl
theorem buildR_eq (ps : Array (Nat × Value)) : Instr.build 40 ps = buildR ps := rfl
/-- A command as it lies. -/
def objR (c : Cm) : Obj := .cells c.vals.toArray 40
theorem sizeR : (Tryz.prog.info? 40).map (fun i => i.size) = some 18 := by kernel_rfl
theorem zeroR_val : (Tryz.prog.info? 40).bind (fun i => i.zero) = some (Cm.zero 0).agg := by kernel_rfl
theorem run_zeroR (w : World) : zeroR.run Tryz.prog w = .ok (Cm.zero 0).agg w := by
  unfold zeroR zeroValue typeInfo
  cases hq : Tryz.prog.info? 40 with
  | none => have := zeroR_val; simp [hq] at this
  | some i =>
    have hz : i.zero = some (Cm.zero 0).agg := by have := zeroR_val; simpa [hq] using this
    simp [Sem.run_bind, hq, hz]
theorem run_newR (c : Cm) (w : World) : (newR c.agg).run Tryz.prog w = .ok ⟨w.heap.size, 0, none⟩ (w.alloc (objR c)) := by
  rfl
theorem run_loadR {w : World} {g : Nat} {c : Cm} (h : BxC w g c) : (loadR ⟨g, 0, none⟩).run Tryz.prog w = .ok c.agg w := by
  obtain ⟨i, hq, hs⟩ := info_size sizeR
  have hl : (loadCells ⟨g, 0, none⟩ c.vals.length).run Tryz.prog w = .ok c.vals.toArray w :=
    run_loadCells_list (P := Tryz.prog) w ⟨g, 0, none⟩ c.vals (fun j v hv => by rw [add_off, Nat.zero_add]; exact h.cell j v hv)
  have hl' : (loadCells ⟨g, 0, none⟩ 18).run Tryz.prog w = .ok c.vals.toArray w := hl
  have hagg : (isAgg 40).run Tryz.prog w = .ok true w := by
    unfold isAgg
    rw [Sem.run_bind, run_underlying Tryz.underlying40 w]
    simp
  unfold loadR loadVar
  simp only [Sem.run_bind, hagg, Result.andThen_ok, if_true, sizeOf, typeInfo]
  simp [hs, hl', hq]
  rfl
theorem run_storeR {w : World} {g : Nat} {d : Cm} (h : BxC w g d) (c : Cm) : (storeR ⟨g, 0, none⟩ c.agg).run Tryz.prog w = .ok () (setFrom w g 0 c.vals) := by
  obtain ⟨i, hq, hs⟩ := info_size sizeR
  have h1 := storeCells_set Tryz.prog g c.vals 0 w (vals_one c) (fun j hj => by
    have hj' : j < d.vals.length := hj
    refine ⟨?_, ?_⟩
    · rw [Nat.zero_add, h.cell j _ (List.getElem?_eq_getElem hj')]; rfl
    · rw [Nat.zero_add]; exact h.free j hj)
  unfold storeR storeVar
  rw [agg_cells]
  have hsz : c.vals.toArray.size = 18 := rfl
  simp [sizeOf, typeInfo, hq, hs, hsz, h1]
theorem run_buildR0 (w : World) : (buildR #[]).run Tryz.prog w = .ok (Cm.zero 0).agg w := by
  unfold buildR
  simp [go_sem]
  rfl
theorem run_buildR1 (k : Int) (w : World) : (buildR #[(0, .int .i64 k)]).run Tryz.prog w = .ok (Cm.zero k).agg w := by
  unfold buildR
  simp [go_sem]
  rfl
theorem run_neqR (c d : Cm) (w : World) : (binOp .neq 40 c.agg d.agg).run Tryz.prog w = .ok (.bool (!decide (c = d))) w := by
  show (binOp .neq 40 (.agg _) (.agg _)).run Tryz.prog w = _
  rw [run_neq_struct]
  have := eqAggR c d w
  unfold Cm.agg at this
  rw [this]
  rfl
theorem run_eqlR (c d : Cm) (w : World) : (binOp .eql 40 c.agg d.agg).run Tryz.prog w = .ok (.bool (decide (c = d))) w := by
  show (binOp .eql 40 (.agg _) (.agg _)).run Tryz.prog w = _
  rw [run_eql_struct]
  have := eqAggR c d w
  unfold Cm.agg at this
  rw [this]
  rfl
theorem run_guardR (op : BinOp) (x y : Operand) (c d : Cm) (w : World) : (eqGuard op 40 x y c.agg d.agg).run Tryz.prog w = .ok () w := by
  show (eqGuard op 40 x y (.agg _) (.agg _)).run Tryz.prog w = _
  exact run_eqGuard_agg w op 40 x y _ _ (by kernel_rfl)
theorem resR {fn : Func} {p : Tmp} (h : fn.results = #[.cell p 40]) (tmps : Array Value) {w : World} {g : Nat} {v : Value} (hp : tmps.getD p undef = .pointer (some ⟨g, 0, none⟩)) (hl : (loadR ⟨g, 0, none⟩).run Tryz.prog w = .ok v w) :
    (results fn tmps).run Tryz.prog w = .ok v w := by
  have hp' : tmps[p]?.getD undef = .pointer (some ⟨g, 0, none⟩) := by simpa using hp
  have hl' : (loadVar 40 ⟨g, 0, none⟩).run Tryz.prog w = .ok v w := hl
  simp [results, h, hp', asAddr, hl']
theorem BxC.newR (w : World) (c : Cm) : BxC (w.alloc (objR c)) w.heap.size c := BxC.new w c 40
end Go.Proofs.YtoekggbbkcmknaaGreatDoor
/- A command with no more than its kind tells. -/
namespace Go.Proofs.YtoekggbbkcmknaaGreatDoor
open Go.RowKit
attribute [local go_sem ↓] zeroC_eq newC_eq loadC_eq storeC_eq buildC_eq zeroR_eq newR_eq loadR_eq storeR_eq buildR_eq
attribute [local go_sem] run_zeroC run_newC run_buildC0 run_buildC1 run_neqC run_eqlC run_guardC run_zeroR run_newR run_buildR0 run_buildR1 run_neqR run_eqlR run_guardR
theorem told_start (c : Cm) (w : World) : ∃ W, W = setFrom (((w.alloc (objC c)).alloc (objC (Cm.zero 0))).alloc (objC (Cm.zero 0))) (w.heap.size + 1 + 1) 0 (Cm.zero c.kind).vals ∧ (storeC ⟨w.heap.size + 1 + 1, 0, none⟩ (Cm.zero c.kind).agg).run Tryz.prog (((w.alloc (objC c)).alloc (objC (Cm.zero 0))).alloc (objC (Cm.zero 0))) = .ok () W ∧
    BxC W w.heap.size c ∧ BxC W (w.heap.size + 1) (Cm.zero 0) ∧ BxC W (w.heap.size + 1 + 1) (Cm.zero c.kind) ∧ Below w.heap.size w W ∧ W.heap.size = w.heap.size + 1 + 1 + 1 := by
  have h1 : BxC (((w.alloc (objC c)).alloc (objC (Cm.zero 0))).alloc (objC (Cm.zero 0))) w.heap.size c := ((BxC.newC w c).alloc _).alloc _
  have h2 : BxC (((w.alloc (objC c)).alloc (objC (Cm.zero 0))).alloc (objC (Cm.zero 0))) (w.heap.size + 1) (Cm.zero 0) := by
    have := (BxC.newC (w.alloc (objC c)) (Cm.zero 0)).alloc (objC (Cm.zero 0))
    simpa only [World.size_alloc] using this
  have h3 : BxC (((w.alloc (objC c)).alloc (objC (Cm.zero 0))).alloc (objC (Cm.zero 0))) (w.heap.size + 1 + 1) (Cm.zero 0) := by
    have := BxC.newC ((w.alloc (objC c)).alloc (objC (Cm.zero 0))) (Cm.zero 0)
    simpa only [World.size_alloc] using this
  have hs := h3.stored (Cm.zero c.kind)
  refine ⟨_, rfl, run_storeC h3 _, h1.upd hs.2 (by omega), h2.upd hs.2 (by omega), hs.1, ?_, by rw [hs.2.size]; simp⟩
  exact ((((Below.refl _ _).alloc (Nat.le_refl _) _).alloc (by simp) _).alloc (by simp; omega) _).trans (hs.2.below (by omega))
set_option maxRecDepth 1000000 in
theorem told_any (c : Cm) (hk : 1 ≤ c.kind ∧ c.kind ≤ 13) (w : World) (hF : Forms w) :
    Calls Tryz.prog 57 #[c.agg] w fun e w' => e = .returned (told c).agg ∧ Below w.heap.size w w' := by
  obtain ⟨hk1, hk2⟩ := hk
  obtain ⟨W, hW, hst, hC0, hZ0, hT0, hB0, hsz⟩ := told_start c w
  have hk00 := (BxC.newC w c).cell 0 _ rfl
  have hf := (hF.below hB0 hF.lt) c.kind hk1 hk2
  have hk0 := hC0.cell 0 _ rfl
  have HC := Lib.hid hC0
  have HZ := Lib.hid hZ0
  have HT := Lib.hid hT0
  have HB := Lib.hid hB0
  have HSZ := Lib.hid hsz
  clear hF hsz hC0 hZ0 hT0 hB0
  generalize hw : told c = tc
  have HW := Lib.hid hw
  clear hw
  clear hW
  go_enter Tryz.func57, Tryz.ntmps57
  go_wp2
  go_loopg [] (form c.kind).length (fun n wr => ∃ m, m + n = (form c.kind).length ∧ BxC wr (w.heap.size + 1 + 1) (((form c.kind).take m).foldl (fun t s => s.hand t c) (Cm.zero c.kind)) ∧ BxC wr w.heap.size c ∧ BxC wr (w.heap.size + 1) (Cm.zero 0) ∧ wr.heap[W.heap.size]? = some (.stringIter (formS c.kind) m) ∧ Below w.heap.size w wr)
  case atStart => exact ⟨0, by omega, HT.out.iter _ _, HC.out.iter _ _, HZ.out.iter _ _, iter_at _ _ _, iter_below HB.out (by have := HSZ.out; omega) _ _⟩
  case round =>
    obtain ⟨m, hm, hT, hC, hZ, hI, hB⟩ := hrel
    have hsz := HSZ.out
    by_cases hlt : m < (form c.kind).length
    · obtain ⟨s, hs⟩ : ∃ s, (form c.kind)[m]? = some s := ⟨_, List.getElem?_eq_getElem hlt⟩
      have hnx : ∀ ty, (Instr.next (.pointer (some ⟨W.heap.size, 0, none⟩)) true ty).run Tryz.prog wr = _ := fun ty => next_sign Tryz.prog wr _ _ m s ty hI hs
      have hu := iter_upd wr W.heap.size (formS c.kind) (m + 1)
      have hI1 := Lib.iterAt_heap wr W.heap.size (formS c.kind) m (m + 1) hI
      have HT := Lib.hid (hT.upd hu (by omega))
      have HC := Lib.hid (hC.upd hu (by omega))
      have HZ := Lib.hid (hZ.upd hu (by omega))
      have HB := Lib.hid (Lib.below_iterAt hB (k := W.heap.size) (by omega) (formS c.kind) (m + 1))
      have HI := Lib.hid hI1
      have HL := Lib.hid (show W.heap.size < (wr.iterAt W.heap.size (formS c.kind) (m + 1)).heap.size from (Array.getElem?_eq_some_iff.1 hI1).1)
      have HS := Lib.hid hs
      have HM := Lib.hid hm
      clear hT hC hZ hI hB hI1 hs hu hm hlt hsz hst hf hk0 hk00
      go_wp2_with (first
        | (go_at_call 46; refine (field_any s _).mono ?_; rintro e w2 ⟨P, rfl, ⟨fh, fl, fp, fg, ch, cl, cp, cg, rfl, ⟨e1, _, _, _⟩, hH, _, _, _⟩, hb⟩; have HT2 := Lib.hid (HT.out.below hb); have HC2 := Lib.hid (HC.out.below hb); have HZ2 := Lib.hid (HZ.out.below hb); have HB2 := Lib.hid (HB.out.trans (hb.mono (Nat.le_of_lt (Nat.lt_of_le_of_lt (by have := HSZ.out; omega) HL.out)))); have HI2 := Lib.hid ((hb.block _ HL.out).trans HI.out); have HH := Lib.hid (fun (W' : World) (hW : W'.heap = w2.heap) (h1 : BxC W' (w.heap.size + 1 + 1) (((form c.kind).take m).foldl (fun t s => s.hand t c) (Cm.zero c.kind))) (h2 : BxC W' w.heap.size c) => hH W' _ _ _ _ (Stay.heap hW) h1 h2); unfold Ent at e1; have p0 := fun W => fpart0 fh fl fp fg ch cl cp cg W; clear hH)
        | ((with_reducible refine (HH.out _ rfl HT2.out HC2.out).mono ?_); rintro e w3 ⟨rfl, hT3, hu3⟩))
      go_roundg (gk - 1)
      case rel =>
        have hne : ∀ (k : Nat), k ≠ w.heap.size + 1 + 1 → w3.heap[k]? = w2.heap[k]? := hu3.block
        have hm1 := HM.out
        have hl1 := (List.getElem?_eq_some_iff.1 HS.out).1
        have hsz := HSZ.out
        refine ⟨m + 1, by omega, ?_, HC2.out.upd hu3 (by omega), HZ2.out.upd hu3 (by omega), (hne _ (by omega)).trans HI2.out, HB2.out.trans (hu3.below (by omega))⟩
        rw [fold_snoc _ _ _ _ _ HS.out]
        exact hT3
      case measure =>
        have hm1 := HM.out
        have hl1 := (List.getElem?_eq_some_iff.1 HS.out).1
        omega
    · obtain rfl : m = (form c.kind).length := by omega
      rw [List.take_length] at hT
      have hT' : BxC wr (w.heap.size + 1 + 1) tc := by rw [← HW.out]; exact hT
      clear hT HW
      have hnx : ∀ ty, (Instr.next (.pointer (some ⟨W.heap.size, 0, none⟩)) true ty).run Tryz.prog wr = _ := fun ty => next_end Tryz.prog wr _ _ ty hI
      have hl := run_loadC hT'
      have hst2 := run_storeC hZ tc
      obtain ⟨hz1, hz2⟩ := hZ.stored tc
      have HR := Lib.hid (run_loadC hz1)
      have HB2 := Lib.hid (hB.trans (hz2.below (Nat.le_succ _)))
      clear hT' hC hZ hI hB hlt hm hz1 hz2 hsz hst hf hk0 hk00
      go_wp2
      exact bodyPost_ret_by (v := tc.agg) (resC Tryz.results57 _ rfl HR.out) rfl ⟨rfl, HB2.out⟩
end Go.Proofs.YtoekggbbkcmknaaGreatDoor
/- What is wrong with a command. -/
namespace Go.Proofs.YtoekggbbkcmknaaGreatDoor
open Go.RowKit
attribute [local go_sem ↓] zeroC_eq newC_eq loadC_eq storeC_eq buildC_eq zeroR_eq newR_eq loadR_eq storeR_eq buildR_eq
attribute [local go_sem] run_zeroC run_newC run_buildC0 run_buildC1 run_neqC run_eqlC run_guardC run_zeroR run_newR run_buildR0 run_buildR1 run_neqR run_eqlR run_guardR
theorem known_any (k : Int) (w : World) : Calls Tryz.prog 44 #[.int .i64 k] w fun e w' => e = .returned (.bool (known k)) ∧ w = w' := by
  unfold known
  by_cases h1 : 1 ≤ k
  · rw [decide_eq_true h1, Bool.true_and]
    go_enter Tryz.func44, Tryz.ntmps44
    go_wp2
    go_ret
    exact ⟨rfl, rfl⟩
  · rw [decide_eq_false h1, Bool.false_and]
    go_enter Tryz.func44, Tryz.ntmps44
    go_wp2
    go_ret
    exact ⟨rfl, rfl⟩
theorem known_iff {k : Int} : known k = true ↔ 1 ≤ k ∧ k ≤ 13 := by unfold known; simp
/-- What the region that asks for the form holds. -/
def HoldW (w0 : World) (g : Nat) (c : Cm) (w1 : World) : Prop := (loadC ⟨g, 0, none⟩).run Tryz.prog w1 = .ok c.agg w1 ∧ w1.cell? ⟨g, 7, none⟩ = some (.int .i64 c.bk) ∧ BxC w1 g c ∧ Forms w1 ∧ Below w0.heap.size w0 w1
theorem heldW {w0 w1 w2 : World} {g : Nat} {c : Cm} (h : HoldW w0 g c w1) (hb : Below w1.heap.size w1 w2) : HoldW w0 g c w2 := by
  have hB := h.2.2.1.below hb
  exact ⟨run_loadC hB, hB.cell 7 _ rfl, hB, h.2.2.2.1.below hb h.2.2.2.1.lt, h.2.2.2.2.trans (hb.mono h.2.2.2.2.size)⟩
theorem heldWd {w0 w1 : World} {g : Nat} {c : Cm} (h : HoldW w0 g c w1) : HoldW w0 g c w1.drew := by
  have hB := h.2.2.1.drew
  exact ⟨run_loadC hB, hB.cell 7 _ rfl, hB, h.2.2.2.1.keep rfl, h.2.2.2.2.drew⟩
theorem heldForms {w0 w1 : World} {g : Nat} {c : Cm} (h : HoldW w0 g c w1) : Forms w1 := h.2.2.2.1
theorem heldW0 {w : World} {g : Nat} {c : Cm} (h : BxC w g c) (hF : Forms w) : HoldW w g c w := ⟨run_loadC h, h.cell 7 _ rfl, h, hF, Below.refl _ _⟩
set_option maxRecDepth 1000000 in
theorem wrong_bad (c : Cm) (w : World) (hF : Forms w) (hkn : 1 ≤ c.kind ∧ c.kind ≤ 13) (hb : c ≠ told c ∨ c.bk < 0 ∨ 255 < c.bk) :
    Calls Tryz.prog 32 #[c.agg] w fun e w' => e = .returned (.int .i64 4) ∧ Below w.heap.size w w' := by
  have hk00 := (BxC.newC w c).cell 0 _ rfl
  have HK := Lib.hid (fun W => known_any c.kind W)
  rw [known_iff.2 hkn] at HK
  have HT := Lib.hid (fun W (hW : Forms W) => told_any c hkn W hW)
  have HS0 := Lib.hid (heldW0 (BxC.newC w c) (hF.alloc _))
  have HS1 := Lib.hid (heldWd HS0.out)
  have hl1 := HS1.out.1
  have hc1 := HS1.out.2.1
  have HB0 := Lib.hid ((Below.refl w.heap.size w).alloc (Nat.le_refl _) (objC c))
  rcases Classical.em (c = told c) with h1 | h1
  · rw [← h1] at HT
    have hb' : c.bk < 0 ∨ 255 < c.bk := by
      rcases hb with h | h
      · exact absurd h1 h
      · exact h
    clear hb h1 hF
    rcases Classical.em (c.bk < 0) with h2 | h2
    · clear hb'
      go_enter Tryz.func32, Tryz.ntmps32
      go_wp2_with (go_at_call 44; refine (HK.out _).mono ?_; rintro e w1 ⟨rfl, rfl⟩)
      first | (go_region_with (first | (go_at_call 57; (with_reducible refine (HT.out _ ?_).mono ?_); (next => exact HS1.out.2.2.2.1); rintro e w2 ⟨rfl, hb⟩; have HS2 := heldW HS1.out hb; have hl2 := HS2.1; have hc2 := HS2.2.1))) | (fail)
      all_goals
        go_wp2
        go_ret
        exact ⟨rfl, HB0.out.trans (HS2.2.2.2.2.mono (by simp))⟩
    · have h3 : 255 < c.bk := by omega
      have hd2 : decide (c.bk < 0) = false := decide_eq_false h2
      clear h2
      clear hb' hl1 hc1
      go_enter Tryz.func32, Tryz.ntmps32
      go_wp2_with (go_at_call 44; refine (HK.out _).mono ?_; rintro e w1 ⟨rfl, rfl⟩)
      go_region_held3 (fun w' => (loadC ⟨w.heap.size, 0, none⟩).run Tryz.prog w' = .ok c.agg w' ∧ w'.cell? ⟨w.heap.size, 7, none⟩ = some (.int .i64 c.bk) ∧ BxC w' w.heap.size c ∧ Forms w' ∧ Below (w.alloc (objC c)).heap.size (w.alloc (objC c)) w')
        ((first | assumption | exact HS0.out | exact heldWd HS0.out | exact heldW ‹_› hb | exact heldWd ‹_›))
        (first | (go_at_call 57; (with_reducible refine (HT.out _ ?_).mono ?_); (next => exact heldForms (w0 := w.alloc (objC c)) (g := w.heap.size) (c := c) ‹_›); rintro e w2 ⟨rfl, hb⟩))
      rename_i hS
      have hx := hS.2.2.2.2
      clear hS
      go_wp2
      go_ret
      exact ⟨rfl, HB0.out.trans (hx.mono (by simp))⟩
  · have hd : decide (c = told c) = false := decide_eq_false h1
    clear hb h1 hF
    go_enter Tryz.func32, Tryz.ntmps32
    go_wp2_with (go_at_call 44; refine (HK.out _).mono ?_; rintro e w1 ⟨rfl, rfl⟩)
    first | (go_region_with (first | (go_at_call 57; (with_reducible refine (HT.out _ ?_).mono ?_); (next => exact HS1.out.2.2.2.1); rintro e w2 ⟨rfl, hb⟩; have HS2 := heldW HS1.out hb; have hl2 := HS2.1; have hc2 := HS2.2.1))) | (fail)
    all_goals
      go_wp2
      go_ret
      exact ⟨rfl, HB0.out.trans (HS2.2.2.2.2.mono (by simp))⟩
set_option maxRecDepth 1000000 in
theorem wrong_any (c : Cm) (w : World) (hF : Forms w) :
    Calls Tryz.prog 32 #[c.agg] w fun e w' => e = .returned (.int .i64 (wrongC c)) ∧ Below w.heap.size w w' := by
  unfold wrongC
  by_cases hk : known c.kind = false
  · rw [if_pos hk]
    have hk00 := (BxC.newC w c).cell 0 _ rfl
    have HK := Lib.hid (fun W => known_any c.kind W)
    rw [hk] at HK
    clear hk
    go_enter Tryz.func32, Tryz.ntmps32
    go_wp2_with (go_at_call 44; refine (HK.out _).mono ?_; rintro e w1 ⟨rfl, rfl⟩)
    go_ret
    exact ⟨rfl, (Below.refl _ _).alloc (Nat.le_refl _) _⟩
  · rw [if_neg hk]
    have hkn := known_iff.1 (by simpa using hk)
    clear hk
    by_cases hb : c ≠ told c ∨ c.bk < 0 ∨ 255 < c.bk
    · rw [if_pos hb]
      exact wrong_bad c w hF hkn hb
    · rw [if_neg hb]
      have hk00 := (BxC.newC w c).cell 0 _ rfl
      have HK := Lib.hid (fun W => known_any c.kind W)
      rw [known_iff.2 hkn] at HK
      have h1 : told c = c := Classical.not_not.1 fun h => hb (.inl fun h' => h h'.symm)
      have HT := Lib.hid (fun W (hW : Forms W) => told_any c hkn W hW)
      rw [h1] at HT
      have HS0 := Lib.hid (heldW0 (BxC.newC w c) (hF.alloc _))
      have HB0 := Lib.hid ((Below.refl w.heap.size w).alloc (Nat.le_refl _) (objC c))
      have hd2 : decide (c.bk < 0) = false := decide_eq_false fun h => hb (.inr (.inl h))
      have hd3 : decide (255 < c.bk) = false := decide_eq_false fun h => hb (.inr (.inr h))
      obtain ⟨hk1, hk2⟩ := hkn
      clear hb h1 hF
      generalize hr : (if ((form c.kind).any fun s => s.long c) = true then (5 : Int) else 0) = r
      have HR := Lib.hid hr
      clear hr
      go_enter Tryz.func32, Tryz.ntmps32
      go_wp2_with (go_at_call 44; refine (HK.out _).mono ?_; rintro e w1 ⟨rfl, rfl⟩)
      go_region_held3 (fun w' => (loadC ⟨w.heap.size, 0, none⟩).run Tryz.prog w' = .ok c.agg w' ∧ w'.cell? ⟨w.heap.size, 7, none⟩ = some (.int .i64 c.bk) ∧ BxC w' w.heap.size c ∧ Forms w' ∧ Below (w.alloc (objC c)).heap.size (w.alloc (objC c)) w')
        ((first | assumption | exact HS0.out | exact heldWd HS0.out | exact heldW ‹_› hb | exact heldWd ‹_›))
        (first | (go_at_call 57; (with_reducible refine (HT.out _ ?_).mono ?_); (next => exact heldForms (w0 := w.alloc (objC c)) (g := w.heap.size) (c := c) ‹_›); rintro e w2 ⟨rfl, hb⟩))
      rename_i hS
      obtain ⟨_, _, hC, hF, hB⟩ := hS
      have hB1 := HB0.out.trans (hB.mono (by simp))
      have hf := hF c.kind hk1 hk2
      have hk0 := hC.cell 0 _ rfl
      have HC := Lib.hid hC
      have HB := Lib.hid hB1
      have HL := Lib.hid hB.size
      clear hC hF hB hB1 hk00 hd2 hd3 HS0 HB0 HK HT
      go_wp2
      have HLw := Lib.hid (show w.heap.size + 1 ≤ w2.heap.size by have := HL.out; simpa using this)
      clear HL
      go_loopg [] (form c.kind).length (fun n wr => ∃ m, m + n = (form c.kind).length ∧ ((form c.kind).take m).any (fun s => s.long c) = false ∧ BxC wr w.heap.size c ∧ wr.heap[w2.heap.size]? = some (.stringIter (formS c.kind) m) ∧ Below w.heap.size w wr)
      case atStart => exact ⟨0, by omega, rfl, HC.out.iter _ _, iter_at _ _ _, iter_below HB.out (by have := HLw.out; omega) _ _⟩
      case round =>
        obtain ⟨m, hm, hA, hC, hI, hB⟩ := hrel
        have hsz := HLw.out
        by_cases hlt : m < (form c.kind).length
        · obtain ⟨s, hs⟩ : ∃ s, (form c.kind)[m]? = some s := ⟨_, List.getElem?_eq_getElem hlt⟩
          have hnx : ∀ ty, (Instr.next (.pointer (some ⟨w2.heap.size, 0, none⟩)) true ty).run Tryz.prog wr = _ := fun ty => next_sign Tryz.prog wr _ _ m s ty hI hs
          have hu := iter_upd wr w2.heap.size (formS c.kind) (m + 1)
          have hI1 := Lib.iterAt_heap wr w2.heap.size (formS c.kind) m (m + 1) hI
          have HC := Lib.hid (hC.upd hu (by omega))
          have HB := Lib.hid (Lib.below_iterAt hB (k := w2.heap.size) (by omega) (formS c.kind) (m + 1))
          have HI := Lib.hid hI1
          have HL2 := Lib.hid (show w2.heap.size < (wr.iterAt w2.heap.size (formS c.kind) (m + 1)).heap.size from (Array.getElem?_eq_some_iff.1 hI1).1)
          have HS := Lib.hid hs
          have HM := Lib.hid hm
          have HA := Lib.hid hA
          clear hA hC hI hB hI1 hs hu hm hlt hsz hf hk0
          by_cases hlg : s.long c = true
          · go_wp2_with (first
            | (go_at_call 46; refine (field_any s _).mono ?_; rintro e w4 ⟨P, rfl, ⟨fh, fl, fp, fg, ch, cl, cp, cg, rfl, ⟨_, e2, _, _⟩, _, hL, _, _⟩, hb⟩; have HC2 := Lib.hid (HC.out.below hb); have HB2 := Lib.hid (HB.out.trans (hb.mono (by have := HL2.out; have := HLw.out; omega))); have HI2 := Lib.hid ((hb.block _ HL2.out).trans HI.out); have HH := Lib.hid (fun (W' : World) (hW : W'.heap = w4.heap) (h2 : BxC W' w.heap.size c) => hL W' _ _ (Stay.heap hW) h2); unfold Ent at e2; have p0 := fun W => fpart1 fh fl fp fg ch cl cp cg W; rw [hlg] at HH; clear hL)
            | ((with_reducible refine (HH.out _ rfl HC2.out).mono ?_); rintro e w5 ⟨rfl, hb5⟩))
            go_ret
            refine ⟨?_, HB2.out.trans (hb5.mono (Below.size HB2.out))⟩
            have h6 : ((form c.kind).any fun s => s.long c) = true := by
              rw [List.any_eq_true]
              exact ⟨s, List.mem_of_getElem? HS.out, hlg⟩
            have h7 := HR.out
            rw [if_pos h6] at h7
            subst h7
            rfl
          · have hlg : s.long c = false := by simpa using hlg
            go_wp2_with (first
            | (go_at_call 46; refine (field_any s _).mono ?_; rintro e w4 ⟨P, rfl, ⟨fh, fl, fp, fg, ch, cl, cp, cg, rfl, ⟨_, e2, _, _⟩, _, hL, _, _⟩, hb⟩; have HC2 := Lib.hid (HC.out.below hb); have HB2 := Lib.hid (HB.out.trans (hb.mono (by have := HL2.out; have := HLw.out; omega))); have HI2 := Lib.hid ((hb.block _ HL2.out).trans HI.out); have HH := Lib.hid (fun (W' : World) (hW : W'.heap = w4.heap) (h2 : BxC W' w.heap.size c) => hL W' _ _ (Stay.heap hW) h2); unfold Ent at e2; have p0 := fun W => fpart1 fh fl fp fg ch cl cp cg W; rw [hlg] at HH; clear hL)
            | ((with_reducible refine (HH.out _ rfl HC2.out).mono ?_); rintro e w5 ⟨rfl, hb5⟩))
            go_roundg (gk - 1)
            case rel =>
              have hm1 := HM.out
              have hl1 := (List.getElem?_eq_some_iff.1 HS.out).1
              refine ⟨m + 1, by omega, ?_, HC2.out.below hb5, (hb5.block _ (Array.getElem?_eq_some_iff.1 HI2.out).1).trans HI2.out, HB2.out.trans (hb5.mono (Below.size HB2.out))⟩
              rw [List.take_add_one, HS.out, List.any_append, HA.out]
              simp [hlg]
            case measure =>
              have hm1 := HM.out
              have hl1 := (List.getElem?_eq_some_iff.1 HS.out).1
              omega
        · obtain rfl : m = (form c.kind).length := by omega
          rw [List.take_length] at hA
          have hnx : ∀ ty, (Instr.next (.pointer (some ⟨w2.heap.size, 0, none⟩)) true ty).run Tryz.prog wr = _ := fun ty => next_end Tryz.prog wr _ _ ty hI
          have h7 := HR.out
          rw [if_neg (by rw [hA]; decide)] at h7
          subst h7
          have HB := Lib.hid hB
          clear hA hC hI hB hlt hm hsz hf hk0 HR
          go_wp2
          go_ret
          exact ⟨rfl, HB.out⟩
end Go.Proofs.YtoekggbbkcmknaaGreatDoor
/- The command that stands next. -/
namespace Go.Proofs.YtoekggbbkcmknaaGreatDoor
open Go.RowKit
attribute [local go_sem ↓] zeroC_eq newC_eq loadC_eq storeC_eq buildC_eq zeroR_eq newR_eq loadR_eq storeR_eq buildR_eq
attribute [local go_sem] run_zeroC run_newC run_buildC0 run_buildC1 run_neqC run_eqlC run_guardC run_zeroR run_newR run_buildR0 run_buildR1 run_neqR run_eqlR run_guardR
theorem read_off {b g : Nat} {w W : World} (h0 : Mod b w W) (hg : w.heap.size ≤ g) {V : World} (h : OffL [g, b] W V) : Mod b w V :=
  ⟨h.os.trans h0.os, h.tape.trans h0.tape, h.output.trans h0.output, Nat.le_trans h0.size h.size, fun k hk hn => (h.block k (Nat.lt_of_lt_of_le hk h0.size) (by simp; omega)).trans (h0.block k hk hn)⟩
theorem mod_upd' {b g : Nat} {w W V : World} (h0 : Mod b w W) (hg : w.heap.size ≤ g) (h : Upd g W V) : Mod b w V :=
  ⟨h.os.trans h0.os, h.tape.trans h0.tape, h.output.trans h0.output, Nat.le_trans h0.size (Nat.le_of_eq h.size.symm), fun k hk hn => (h.block k (by omega)).trans (h0.block k hk hn)⟩
/-- What Read has laid ahead of the forms: its answer's box, and the command's. -/
theorem read_start (k : Int) {w w1 : World} {b : Nat} {r : ByteArray} {e : Int} (hb : b < w.heap.size) (hr : Rd w1 b r e) (hu : Upd b (w.alloc (objC (Cm.zero 0))) w1) :
    ∃ W, W = setFrom (w1.alloc (objC (Cm.zero 0))) w1.heap.size 0 (Cm.zero k).vals ∧ (storeC ⟨w.heap.size + 1, 0, none⟩ (Cm.zero k).agg).run Tryz.prog (w1.alloc (objC (Cm.zero 0))) = .ok () W ∧ w1.heap.size = w.heap.size + 1 ∧
      BxC W w.heap.size (Cm.zero 0) ∧ BxC W (w.heap.size + 1) (Cm.zero k) ∧ Rd W b r e ∧ Mod b w W ∧ W.heap.size = w.heap.size + 1 + 1 := by
  have hz : w1.heap.size = w.heap.size + 1 := by rw [hu.size]; simp
  have h1 : BxC w1 w.heap.size (Cm.zero 0) := (BxC.newC w (Cm.zero 0)).upd hu (by omega)
  have h2 := BxC.newC w1 (Cm.zero 0)
  have hs := h2.stored (Cm.zero k)
  have hm : Mod b w w1 := ((Mod.refl b w).alloc _).upd hu
  refine ⟨_, rfl, by rw [← hz]; exact run_storeC h2 _, hz, (h1.alloc _).upd hs.2 (by omega), by rw [← hz]; exact hs.1, (hr.alloc _).upd hs.2 (by omega), ?_, ?_⟩
  · exact mod_upd' (hm.alloc _) (by omega) hs.2
  · rw [hs.2.size]; simp [hz]
end Go.Proofs.YtoekggbbkcmknaaGreatDoor
/- Read: the command that stands next. -/
namespace Go.Proofs.YtoekggbbkcmknaaGreatDoor
open Go.RowKit
attribute [local go_sem ↓] zeroC_eq newC_eq loadC_eq storeC_eq buildC_eq zeroR_eq newR_eq loadR_eq storeR_eq buildR_eq
attribute [local go_sem] run_zeroC run_newC run_buildC0 run_buildC1 run_neqC run_eqlC run_guardC run_zeroR run_newR run_buildR0 run_buildR1 run_neqR run_eqlR run_guardR
theorem fold_read_snoc (l : List Sg) (m : Nat) (s : Sg) (T : Cm × ByteArray × Int) (h : l[m]? = some s) : readL (l.take (m + 1)) T = s.read (readL (l.take m) T) := fold_snoc (fun T s => s.read T) l m s T h
set_option maxRecDepth 1000000 in
set_option maxHeartbeats 1500000 in
theorem read_any (b : Nat) (bs : ByteArray) (e : Int) (w : World) (h : Rd w b bs e) (hF : Forms w) (h0 : 0 < b) :
    Calls Tryz.prog 18 #[.pointer (some ⟨b, 0, none⟩)] w fun x w' => x = .returned (readC bs e).1.agg ∧ Rd w' b (readC bs e).2.1 (readC bs e).2.2 ∧ Mod b w w' := by
  have hlt := h.lt
  have hv := Nat.lt_of_lt_of_le (Oc.val_lt (tk bs e 1).1.data.toList) (Nat.pow_le_pow_right (by omega) (tk_size bs e 1))
  unfold readC readR
  have HO := Lib.hid (one_rd b bs e _ (h.alloc (objC (Cm.zero 0))))
  simp only
  revert hv HO
  generalize tk bs e 1 = O
  obtain ⟨ob, r, e1⟩ := O
  intro hv HO
  simp only at hv HO ⊢
  revert hv HO
  generalize Oc.val ob.data.toList = kn
  intro hv HO
  have HLT := Lib.hid hlt
  have HF := Lib.hid hF
  clear h hF
  have HK := Lib.hid (fun W => known_any (kn : Int) W)
  by_cases hk : known (kn : Int) = true
  · rw [if_pos hk]
    rw [hk] at HK
    obtain ⟨hk1, hk2⟩ := known_iff.1 hk
    clear hk
    generalize hG : readL (form (kn : Int)) (Cm.zero (kn : Int), r, e1) = G
    have HG := Lib.hid hG
    clear hG
    generalize hA : (if G.2.2 = 0 then G else (Cm.zero 0, G.2.1, G.2.2)) = A
    have HA := Lib.hid hA
    clear hA
    go_enter Tryz.func18, Tryz.ntmps18
    go_wp2_with (first
      | (go_at_call 43; refine HO.out.mono ?_; rintro x w1 ⟨rfl, hr1, hu1⟩; obtain ⟨W, -, hst, hz, hZ, hT, hR, hM, hsz⟩ := read_start (kn : Int) HLT.out hr1 hu1; have hk0 := hT.cell 0 _ rfl; simp only [Cm.zero] at hk0)
      | (go_at_call 44; refine (HK.out _).mono ?_; rintro x w2 ⟨rfl, rfl⟩; have hf := (HF.out.keep (hM.block 0 HF.out.lt (by omega))) (kn : Int) hk1 hk2; rw [Int.toNat_natCast] at hf))
    have HSZ := Lib.hid hsz
    have HT := Lib.hid hT
    have HZ := Lib.hid hZ
    have HR := Lib.hid hR
    have HM := Lib.hid hM
    clear hst hk0 hf hT hZ hR hM hsz hz hr1 hu1 HF HK HO hv
    go_loopg [] (form (kn : Int)).length (fun n wr => ∃ m, m + n = (form (kn : Int)).length ∧ BxC wr (w.heap.size + 1) (readL ((form (kn : Int)).take m) (Cm.zero (kn : Int), r, e1)).1 ∧ Rd wr b (readL ((form (kn : Int)).take m) (Cm.zero (kn : Int), r, e1)).2.1 (readL ((form (kn : Int)).take m) (Cm.zero (kn : Int), r, e1)).2.2 ∧ BxC wr w.heap.size (Cm.zero 0) ∧ wr.heap[w.heap.size + 1 + 1]? = some (.stringIter (formS (kn : Int)) m) ∧ Mod b w wr)
    case atStart =>
      have hz0 : readL ((form (kn : Int)).take 0) (Cm.zero (kn : Int), r, e1) = (Cm.zero (kn : Int), r, e1) := by rw [List.take_zero]; rfl
      refine ⟨0, by omega, ?_, ?_, HZ.out.iter _ _, by rw [← HSZ.out]; exact iter_at _ _ _, HM.out.alloc _⟩
      · rw [hz0]; exact HT.out.iter _ _
      · rw [hz0]; exact HR.out.alloc _
    case round =>
      obtain ⟨m, hm, hT, hR, hZ, hI, hM⟩ := hrel
      have hsz := HSZ.out
      have hbl := HLT.out
      by_cases hlt : m < (form (kn : Int)).length
      · obtain ⟨s, hs⟩ : ∃ s, (form (kn : Int))[m]? = some s := ⟨_, List.getElem?_eq_getElem hlt⟩
        have hnx : ∀ ty, (Instr.next (.pointer (some ⟨w.heap.size + 1 + 1, 0, none⟩)) true ty).run Tryz.prog wr = _ := fun ty => next_sign Tryz.prog wr _ _ m s ty hI hs
        have hu := iter_upd wr (w.heap.size + 1 + 1) (formS (kn : Int)) (m + 1)
        have hI1 := Lib.iterAt_heap wr (w.heap.size + 1 + 1) (formS (kn : Int)) m (m + 1) hI
        have HS := Lib.hid hs
        have HMM := Lib.hid hm
        have HX := Lib.hid (fold_read_snoc (form (kn : Int)) m s (Cm.zero (kn : Int), r, e1) hs)
        revert hT hR HX
        generalize (readL ((form (kn : Int)).take m) (Cm.zero (kn : Int), r, e1)) = X
        obtain ⟨xc, xs, xe⟩ := X
        intro hT hR HX
        simp only at hT hR
        have HT := Lib.hid (hT.upd hu (by omega))
        have HR := Lib.hid (hR.upd hu (by omega))
        have HZ := Lib.hid (hZ.upd hu (by omega))
        have HM := Lib.hid (mod_upd' hM (by omega) hu)
        have HI := Lib.hid hI1
        have HL2 := Lib.hid (show w.heap.size + 1 + 1 < (wr.iterAt (w.heap.size + 1 + 1) (formS (kn : Int)) (m + 1)).heap.size from (Array.getElem?_eq_some_iff.1 hI1).1)
        clear hT hR hZ hI hM hI1 hs hu hm hlt hsz hbl
        go_wp2_with (first
          | (go_at_call 46; refine (field_any s _).mono ?_; rintro e w4 ⟨P, rfl, ⟨fh, fl, fp, fg, ch, cl, cp, cg, rfl, ⟨_, _, _, e4⟩, _, _, _, hGt⟩, hb⟩; have HT4 := Lib.hid (HT.out.below hb); have HR4 := Lib.hid (HR.out.below hb); have HZ4 := Lib.hid (HZ.out.below hb); have HM4 := Lib.hid (HM.out.step hb); have HI4 := Lib.hid ((hb.block _ HL2.out).trans HI.out); have HH := Lib.hid (fun (W' : World) (hW : W'.heap = w4.heap) (h2 : BxC W' (w.heap.size + 1) xc) (h3 : Rd W' b xs xe) => hGt W' _ _ _ _ _ (Stay.heap hW) h2 h3 (by have := HLT.out; omega)); unfold Ent at e4; have p0 := fun W => fpart3 fh fl fp fg ch cl cp cg W; clear hGt)
          | ((with_reducible refine (HH.out _ rfl HT4.out HR4.out).mono ?_); rintro e w5 ⟨rfl, hT5, hR5, ho5⟩))
        go_roundg (gk - 1)
        case rel =>
          have hm1 := HMM.out
          have hl1 := (List.getElem?_eq_some_iff.1 HS.out).1
          have hsz := HSZ.out
          have hbl := HLT.out
          have hl4 := (Array.getElem?_eq_some_iff.1 HI4.out).1
          refine ⟨m + 1, by omega, ?_, ?_, HZ4.out.off ho5 (by simp; omega), (ho5.block _ hl4 (by simp; omega)).trans HI4.out, read_off HM4.out (by omega) ho5⟩
          · rw [HX.out]; exact hT5
          · rw [HX.out]; exact hR5
        case measure =>
          have hm1 := HMM.out
          have hl1 := (List.getElem?_eq_some_iff.1 HS.out).1
          omega
      · obtain rfl : m = (form (kn : Int)).length := by omega
        rw [List.take_length, HG.out] at hT hR
        have hnx : ∀ ty, (Instr.next (.pointer (some ⟨w.heap.size + 1 + 1, 0, none⟩)) true ty).run Tryz.prog wr = _ := fun ty => next_end Tryz.prog wr _ _ ty hI
        have HE := Lib.hid (err_any b G.2.1 G.2.2 wr hR)
        have hl := run_loadC hT
        have HM := Lib.hid hM
        have HR := Lib.hid hR
        clear hI hlt hm HG
        by_cases hf : G.2.2 = 0
        · have hA := HA.out
          rw [if_pos hf] at hA
          subst hA
          have hf' := hf
          rw [hf] at HE
          have hst2 := run_storeC hZ G.1
          obtain ⟨hz1, hz2⟩ := hZ.stored G.1
          have HQ := Lib.hid (run_loadC hz1)
          have HM2 := Lib.hid (mod_upd' HM.out (Nat.le_refl _) hz2)
          have HR2 := Lib.hid (HR.out.upd hz2 (by omega))
          clear hT hR hZ hM hz1 hz2 hsz hbl
          go_wp2_with (go_at_call 22; refine HE.out.mono ?_; rintro x w9 ⟨rfl, rfl⟩)
          exact bodyPost_ret_by (v := G.1.agg) (resC Tryz.results18 _ rfl HQ.out) rfl ⟨rfl, HR2.out, HM2.out⟩
        · have hA := HA.out
          rw [if_neg hf] at hA
          subst hA
          have hf' : (G.2.2 != 0) = true := by rw [bne_iff_ne]; exact hf
          have hst2 := run_storeC hZ (Cm.zero 0)
          obtain ⟨hz1, hz2⟩ := hZ.stored (Cm.zero 0)
          have HQ := Lib.hid (run_loadC hz1)
          have HM2 := Lib.hid (mod_upd' HM.out (Nat.le_refl _) hz2)
          have HR2 := Lib.hid (HR.out.upd hz2 (by omega))
          clear hT hR hZ hM hz1 hz2 hsz hbl
          go_wp2_with (go_at_call 22; refine HE.out.mono ?_; rintro x w9 ⟨rfl, rfl⟩)
          exact bodyPost_ret_by (v := (Cm.zero 0).agg) (resC Tryz.results18 _ rfl HQ.out) rfl ⟨rfl, HR2.out, HM2.out⟩
  · have hk' : known (kn : Int) = false := by simpa using hk
    rw [if_neg hk]
    rw [hk'] at HK
    have HFL := Lib.hid (fun W (hW : Rd W b r e1) => fail_any b r e1 11 W hW)
    clear hk hk'
    simp only
    generalize hx : (if e1 = 0 then (11 : Int) else e1) = x at HFL ⊢
    have HX : Hid (x ≠ 0) := by show x ≠ 0; rw [← hx]; split <;> omega
    clear hx
    rw [if_neg HX.out]
    go_enter Tryz.func18, Tryz.ntmps18
    go_wp2_with (first
      | (go_at_call 43; refine HO.out.mono ?_; rintro x w1 ⟨rfl, hr1, hu1⟩; obtain ⟨W, -, hst, hz, hZ, hT, hR, hM, hsz⟩ := read_start (kn : Int) HLT.out hr1 hu1; have hk0 := hT.cell 0 _ rfl; simp only [Cm.zero] at hk0)
      | (go_at_call 44; refine (HK.out _).mono ?_; rintro x w2 ⟨rfl, rfl⟩)
      | (go_at_call 45; refine (HFL.out _ hR).mono ?_; rintro x w3 ⟨rfl, hR3, hu3⟩; have hZ3 := hZ.upd hu3 (by have := HLT.out; omega); have hst2 := run_storeC hZ3 (Cm.zero 0); obtain ⟨hz1, hz2⟩ := hZ3.stored (Cm.zero 0); have HQ := Lib.hid (run_loadC hz1)))
    exact bodyPost_ret_by (v := (Cm.zero 0).agg) (resC Tryz.results18 _ rfl HQ.out) rfl ⟨rfl, hR3.upd hz2 (by have := HLT.out; omega), mod_upd' (hM.upd hu3) (Nat.le_refl _) hz2⟩
end Go.Proofs.YtoekggbbkcmknaaGreatDoor
/- The library's contracts for strings.Builder, strings.Compare, laid at this program's numbers by the guide's own tool. -/
namespace Go.Proofs
open Go.Shelf
def Tryz.lays170_ren : Go.Shelf.Ren := ⟨fun | 170 => 30 | n => n, fun | 70 => 75 | 3 => 3 | 0 => 0 | 72 => 77 | 37 => 70 | 5 => 5 | n => n, fun | n => n⟩
theorem Tryz.lays170 : Go.Proofs.Lays.n170 Tryz.prog Tryz.lays170_ren := {
  mixed := by kernel_rfl
  f170 := Tryz.func30.trans (congrArg some (by kernel_rfl))
  t0 := Tryz.underlying0
  a0 := Tryz.isAgg0
  z0 := Tryz.sizeOf0
  v0 := Tryz.zeroValue0
  t3 := Tryz.underlying3
  a3 := Tryz.isAgg3
  z3 := Tryz.sizeOf3
  v3 := Tryz.zeroValue3
  t37 := Tryz.underlying70
  a37 := Tryz.isAgg70
  z37 := Tryz.sizeOf70
  v37 := Tryz.zeroValue70
  t70 := Tryz.underlying75
  a70 := Tryz.isAgg75
  z70 := Tryz.sizeOf75
  v70 := Tryz.zeroValue75
  t72 := Tryz.underlying77
  a72 := Tryz.isAgg77
  z72 := Tryz.sizeOf77
  v72 := Tryz.zeroValue77 }
open Go.RowKit in
theorem Tryz.Builder_Len (B b : Nat) (bs : List Value) (w : World) (h : Lib.IsBuilder 77 5 B b bs w) :
    Calls Tryz.prog 30 #[.pointer (some ⟨b, 0, none⟩)] w fun e w' => e = .returned (.int .i64 bs.length) ∧ w' = w := Any.Builder_Len Tryz.lays170 B b bs w h
def Tryz.lays169_ren : Go.Shelf.Ren := ⟨fun | 169 => 31 | n => n, fun | 70 => 75 | 9 => 9 | 0 => 0 | 72 => 77 | 37 => 70 | 127 => 117 | 3 => 3 | 5 => 5 | n => n, fun | n => n⟩
theorem Tryz.lays169 : Go.Proofs.Lays.n169 Tryz.prog Tryz.lays169_ren := {
  mixed := by kernel_rfl
  f169 := Tryz.func31.trans (congrArg some (by kernel_rfl))
  t0 := Tryz.underlying0
  a0 := Tryz.isAgg0
  z0 := Tryz.sizeOf0
  v0 := Tryz.zeroValue0
  t3 := Tryz.underlying3
  a3 := Tryz.isAgg3
  z3 := Tryz.sizeOf3
  v3 := Tryz.zeroValue3
  t9 := Tryz.underlying9
  a9 := Tryz.isAgg9
  z9 := Tryz.sizeOf9
  v9 := Tryz.zeroValue9
  t37 := Tryz.underlying70
  a37 := Tryz.isAgg70
  z37 := Tryz.sizeOf70
  v37 := Tryz.zeroValue70
  t70 := Tryz.underlying75
  a70 := Tryz.isAgg75
  z70 := Tryz.sizeOf75
  v70 := Tryz.zeroValue75
  t72 := Tryz.underlying77
  a72 := Tryz.isAgg77
  z72 := Tryz.sizeOf77
  v72 := Tryz.zeroValue77
  t127 := Tryz.underlying117
  a127 := Tryz.isAgg117
  z127 := Tryz.sizeOf117
  v127 := Tryz.zeroValue117 }
theorem Tryz.Builder_Extra_169 : Builder.Extra Tryz.prog Tryz.lays169_ren := {
  sizeBuilder := by kernel_rfl
  liesBuilder := by kernel_rfl
  t5 := Tryz.underlying5
  a5 := Tryz.isAgg5
  z5 := Tryz.sizeOf5
  v5 := Tryz.zeroValue5
  infoByte := by kernel_rfl
  cellsByte := by kernel_rfl
  sizeByte := by kernel_rfl
  neB5 := by decide }
open Go.RowKit in
theorem Tryz.Builder_String (B b : Nat) (l : List UInt8) (w : World) (h : Lib.IsBuilder 77 5 B b (Lib.byteCells l) w) (h0 : l ≠ []) :
    Calls Tryz.prog 31 #[.pointer (some ⟨b, 0, none⟩)] w fun e w' => e = .returned (.string ⟨l.toArray⟩) ∧ Below B w w' := Any.Builder_String Tryz.lays169 Tryz.Builder_Extra_169 B b l w h h0
open Go.RowKit in
theorem Tryz.Builder_String_empty (B b : Nat) (w : World) (h : Lib.IsBuilder 77 5 B b [] w) (hBw : B ≤ w.heap.size) :
    Calls Tryz.prog 31 #[.pointer (some ⟨b, 0, none⟩)] w fun e w' => e = .returned (.string ⟨#[]⟩) ∧ Below B w w' := Any.Builder_String_empty Tryz.lays169 Tryz.Builder_Extra_169 B b w h hBw
open Go.RowKit in
theorem Tryz.Builder_String_any (B b : Nat) (l : List UInt8) (w : World) (h : Lib.IsBuilder 77 5 B b (Lib.byteCells l) w) (hBw : B ≤ w.heap.size) :
    Calls Tryz.prog 31 #[.pointer (some ⟨b, 0, none⟩)] w fun e w' => e = .returned (.string ⟨l.toArray⟩) ∧ Below B w w' := Any.Builder_String_any Tryz.lays169 Tryz.Builder_Extra_169 B b l w h hBw
end Go.Proofs
/- The contracts of strings.Builder's copyCheck and WriteString in this program. -/
namespace Go.Proofs.YtoekggbbkcmknaaGreatDoor
open Go.RowKit
theorem size86 : (Tryz.prog.info? 77).map (fun i => i.size) = some 2 := by kernel_rfl
theorem lies86 : liesAt Tryz.prog Tryz.prog.depth 77 (2 / Tryz.prog.cellsOf 77) 0 77 1 = true := by kernel_rfl
theorem infoByte : (Tryz.prog.info? 5).map (fun i => (i.zero, i.size, i.bytes)) = some (some (.int .u8 0), 1, 1) := by kernel_rfl
theorem copyCheck_used (b : Nat) (w : World) (h0 : w.cell? ⟨b, 0, none⟩ = some (.pointer (some ⟨b, 0, none⟩))) :
    Calls Tryz.prog 55 #[.pointer (some ⟨b, 0, none⟩)] w fun e w' => e = .returned (.tuple #[]) ∧ w = w' := by
  obtain ⟨j, hj, _⟩ := Option.map_eq_some_iff.1 size86
  go_enter Tryz.func55, Tryz.ntmps55
  go_wp2
  rw [Lib.run_neq_ptr_same w _ Tryz.underlying75 hj]
  go_wp2
  go_end0
  exact ⟨rfl, rfl⟩
theorem copyCheck_fresh (b : Nat) (w : World) (h0 : w.cell? ⟨b, 0, none⟩ = some (.pointer none)) (hsh : w.shape? b = some (77, 2)) (hfz : w.frozen? ⟨b, 0, none⟩ = false) :
    Calls Tryz.prog 55 #[.pointer (some ⟨b, 0, none⟩)] w fun e w' => e = .returned (.tuple #[]) ∧ w.setCell ⟨b, 0, none⟩ (.pointer (some ⟨b, 0, none⟩)) = w' := by
  obtain ⟨j, hj, hjs⟩ := Option.map_eq_some_iff.1 size86
  have h1 := Lib.run_to_unsafe (P := Tryz.prog) w ⟨b, 0, none⟩ Tryz.underlying75 Tryz.underlying144 hj (by rw [hjs]; decide) hsh (Nat.zero_lt_succ 1)
  have h2 := Lib.run_from_unsafe (P := Tryz.prog) w ⟨b, 0, none⟩ Tryz.underlying144 Tryz.underlying75 hj hsh lies86
  go_enter Tryz.func55, Tryz.ntmps55
  go_wp2
  rw [run_callFunc_extern Tryz.func97 (by kernel_rfl) (by kernel_rfl) (by kernel_rfl) (e := Extern.AbiNoEscape.same) (by kernel_rfl), Lib.run_noEscape]
  simp only [Result.andThen]
  rw [Oper.upon_value]
  go_wp2
  go_end0
  exact ⟨rfl, rfl⟩
theorem copyCheck_any (B b : Nat) (bs : List Value) (w : World) (h : Lib.IsBuilder 77 5 B b bs w) :
    Calls Tryz.prog 55 #[.pointer (some ⟨b, 0, none⟩)] w fun e w' => e = .returned (.tuple #[]) ∧ Lib.BuilderAt 77 5 B b (.pointer (some ⟨b, 0, none⟩)) bs w' ∧ Below B w w' := by
  rcases h with h | h
  · refine (copyCheck_fresh b w h.cell0 h.shape h.frozen0).mono ?_
    rintro e w' ⟨rfl, rfl⟩
    exact ⟨rfl, h.used _, (Below.refl B w).setCell (p := ⟨b, 0, none⟩) h.1 _⟩
  · refine (copyCheck_used b w h.cell0).mono ?_
    rintro e w' ⟨rfl, rfl⟩
    exact ⟨rfl, h, Below.refl B _⟩
set_option maxHeartbeats 1000000 in
theorem writeString_any (B b : Nat) (bs : List Value) (s : ByteArray) (w : World) (h : Lib.IsBuilder 77 5 B b bs w) (hlen : bs.length + s.size ≤ 140737488355328) (hBw : B ≤ w.heap.size) :
    Calls Tryz.prog 29 #[.pointer (some ⟨b, 0, none⟩), .string s] w fun e w' => e = .returned (.tuple #[.int .i64 s.size, .nilIface]) ∧ Lib.BuilderAt 77 5 B b (.pointer (some ⟨b, 0, none⟩)) (bs ++ Lib.strCells s) w' ∧ Below B w w' := by
  obtain ⟨i0, hi, hz0, hz1, hz2⟩ := info_parts infoByte
  go_enter Tryz.func29, Tryz.ntmps29
  go_wp2_with (go_at_call 55; refine (copyCheck_any B b bs _ h).mono ?_)
  rintro e w1 ⟨rfl, ⟨hB, v, hbk, hown, hne⟩, hb1⟩
  have hsz := hb1.size
  have c0 : w1.cell? ⟨b, 0, none⟩ = some (.pointer (some ⟨b, 0, none⟩)) := by rw [Lib.cell_of_heap hbk]; rfl
  have c1 : w1.cell? ⟨b, 1, none⟩ = some v := by rw [Lib.cell_of_heap hbk]; rfl
  go_wp2_with (at_builtin; refine Lib.wpList_append_own_string _ rfl _ _ 70 9 rfl B 5 i0 Tryz.underlying70 Tryz.underlying9 hi hz0 hz1 hz2 _ _ _ rfl hown s rfl ?c3 ?c4 ?c5 ?_)
  case c3 => unfold maxLen; omega
  case c4 => omega
  case c5 => omega
  intro v' w2 hown' hgrow _
  have hlt : b < w1.heap.size := by
    rcases Nat.lt_or_ge b w1.heap.size with h' | h'
    · exact h'
    · simp [Array.getElem?_eq_none h'] at hbk
  have hb2 : w2.heap[b]? = some (.cells #[.pointer (some ⟨b, 0, none⟩), v] 77 (0, 0)) := by
    rw [hgrow.block b hlt (fun e => hne e.symm)]
    exact hbk
  have d0 : w2.cell? ⟨b, 0, none⟩ = some (.pointer (some ⟨b, 0, none⟩)) := by rw [Lib.cell_of_heap hb2]; rfl
  have d1 : w2.cell? ⟨b, 1, none⟩ = some v := by rw [Lib.cell_of_heap hb2]; rfl
  have g1 : w2.frozen? ⟨b, 1, none⟩ = false := Lib.frozen_of_heap hb2 1
  obtain ⟨ao, m, cap, rfl⟩ : ∃ ao m cap, v' = .slice ao m cap := by
    rcases hown'.2 with ⟨hv, _⟩ | ⟨g, cap, cur, hv, _⟩
    · exact ⟨_, _, _, hv⟩
    · exact ⟨_, _, _, hv⟩
  go_wp2
  go_ret2
  refine ⟨rfl, ?_, ?_⟩
  · exact Lib.BuilderAt.put (T := 77) (e := 5) hB hb2 (bs' := bs ++ Lib.strCells s) (by simpa [Lib.strCells_length] using hown') (by decide)
  · exact (hb1.grown hgrow (by omega) (fun k hk => (hown.lt k hk).1)).setCell (p := ⟨b, 1, none⟩) hB _
end Go.Proofs.YtoekggbbkcmknaaGreatDoor
