/- Texts of one seat, merged. -/
import Derived.Test.YtoekggbbkcmknaaGreatDoorB03
import Derived.Lib.OthersKept
import Derived.LoopTactic
import Derived.Test.YtoekggbbkcmknaaGreatDoorB02
import Derived.Maps.AppendAt
import Derived.Laws.AppendOwnNone
import Derived.Lib.Walk
import Derived.OwnWalk
set_option maxRecDepth 100000
set_option maxHeartbeats 4000000
set_option linter.unusedVariables false
/- The forms, gone through sign by sign. -/
namespace Go.Proofs.YtoekggbbkcmknaaGreatDoor
open Go.RowKit
/-- What the forms are. -/
def Forms (w : World) : Prop := ∀ k : Int, 1 ≤ k → k ≤ 13 → w.cell? ⟨0, k.toNat, none⟩ = some (.string (formS k))
theorem Forms.below {B : Nat} {w w' : World} (h : Forms w) (hb : Below B w w') (h0 : 0 < B) : Forms w' := fun k h1 h2 => (hb.cell (p := ⟨0, k.toNat, none⟩) h0).trans (h k h1 h2)
theorem Forms.keep {w w' : World} (h : Forms w) (hb : w'.heap[0]? = w.heap[0]?) : Forms w' := fun k h1 h2 => by rw [World.cell?_of_block (w := w) hb]; exact h k h1 h2
theorem Forms.lt {w : World} (h : Forms w) : 0 < w.heap.size := World.block_lt_of_cell? _ _ (h 1 (by decide) (by decide))
theorem Forms.alloc {w : World} (h : Forms w) (o : Obj) : Forms (w.alloc o) := h.below ((Below.refl _ _).alloc (Nat.le_refl _) o) h.lt
theorem formS_size (k : Int) : (formS k).size = (form k).length := by unfold formS; rw [str_size, List.length_map]
theorem formS_code (k : Int) (m : Nat) (s : Sg) (h : (form k)[m]? = some s) (hm : m < (formS k).size) : (formS k)[m]'hm = s.code := by
  have h3 : (form k)[m]'(List.getElem?_eq_some_iff.1 h).1 = s := (List.getElem?_eq_some_iff.1 h).2
  have h4 : (formS k)[m]'hm = ((form k).map Sg.code)[m]'(by rw [List.length_map]; exact (List.getElem?_eq_some_iff.1 h).1) := rfl
  rw [h4, List.getElem_map, h3]
theorem formS_at (k : Int) (m : Nat) (s : Sg) (h : (form k)[m]? = some s) (hm : m < (formS k).size) : ((((formS k)[m]'hm).toNat : Nat) : Int) = scode s := by
  rw [formS_code k m s h hm]
  cases s <;> rfl
theorem code_ascii (s : Sg) : s.code.toNat < 128 := by cases s <;> decide
theorem next_sign (P : Program) (w : World) (i : Nat) (k : Int) (m : Nat) (s : Sg) (ty : TypeId) (hk : w.heap[i]? = some (.stringIter (formS k) m)) (h : (form k)[m]? = some s) :
    (Instr.next (.pointer (some ⟨i, 0, none⟩)) true ty).run P w = .ok (.tuple #[.bool true, .int .i64 m, .int .i32 (scode s)]) (w.iterAt i (formS k) (m + 1)) := by
  have hm : m < (formS k).size := by rw [formS_size]; exact (List.getElem?_eq_some_iff.1 h).1
  have h2 := formS_at k m s h hm
  rw [Lib.run_next_ascii_at w i (formS k) m ty hk hm (by rw [formS_code k m s h hm]; exact code_ascii s), h2]
theorem next_end (P : Program) (w : World) (i : Nat) (k : Int) (ty : TypeId) (hk : w.heap[i]? = some (.stringIter (formS k) (form k).length)) :
    (Instr.next (.pointer (some ⟨i, 0, none⟩)) true ty).run P w = .ok (.tuple #[.bool false]) w := Lib.run_next_end_at w i (formS k) _ ty hk (by rw [formS_size]; exact Nat.lt_irrefl _)
/-- An iterator that goes on writes in its own block alone. -/
theorem iter_upd (w : World) (i : Nat) (s : ByteArray) (m : Nat) : Upd i w (w.iterAt i s m) := ⟨rfl, rfl, rfl, Lib.iterAt_size w i s m, fun k hk => Lib.iterAt_other w i k s m hk⟩
theorem fold_snoc {α : Type} (f : α → Sg → α) (l : List Sg) (m : Nat) (s : Sg) (z : α) (h : l[m]? = some s) : (l.take (m + 1)).foldl f z = f ((l.take m).foldl f z) s := by
  rw [List.take_add_one, h]; simp
theorem iter_alloc (w : World) (s : ByteArray) (m : Nat) : w.iter s m = w.alloc (.stringIter s m) := rfl
theorem iter_below {B : Nat} {u w : World} (h : Below B u w) (hB : B ≤ w.heap.size) (s : ByteArray) (m : Nat) : Below B u (w.iter s m) := h.alloc hB _
theorem BxC.iter {w : World} {g : Nat} {c : Cm} (h : BxC w g c) (s : ByteArray) (m : Nat) : BxC (w.iter s m) g c := h.alloc _
theorem iter_at (w : World) (s : ByteArray) (m : Nat) : (w.iter s m).heap[w.heap.size]? = some (.stringIter s m) := World.iter_heap w s m
theorem BxC.all {w : World} {g : Nat} {c : Cm} (h : BxC w g c) : w.cell? ⟨g, 0, none⟩ = some (.int .i64 c.kind) ∧ w.cell? ⟨g, 1, none⟩ = some (.string c.qn) ∧ w.cell? ⟨g, 2, none⟩ = some (.int .u32 c.most) ∧ w.cell? ⟨g, 3, none⟩ = some (.int .u64 c.ttl) ∧ w.cell? ⟨g, 4, none⟩ = some (.int .u32 c.tries) ∧ w.cell? ⟨g, 5, none⟩ = some (.string c.qd) ∧ w.cell? ⟨g, 6, none⟩ = some (.string c.bx) ∧ w.cell? ⟨g, 7, none⟩ = some (.int .i64 c.bk) ∧ w.cell? ⟨g, 8, none⟩ = some (.string c.bp) ∧ w.cell? ⟨g, 9, none⟩ = some (.string c.bq) ∧ w.cell? ⟨g, 10, none⟩ = some (.string c.ex) ∧ w.cell? ⟨g, 11, none⟩ = some (.string c.key) ∧ w.cell? ⟨g, 12, none⟩ = some (.string c.body) ∧ w.cell? ⟨g, 13, none⟩ = some (.int .u64 c.id) ∧ w.cell? ⟨g, 14, none⟩ = some (.int .u64 c.token) ∧ w.cell? ⟨g, 15, none⟩ = some (.int .u64 c.n) ∧ w.cell? ⟨g, 16, none⟩ = some (.int .u64 c.time) ∧ w.cell? ⟨g, 17, none⟩ = some (.bool c.dead) :=
  ⟨h.cell 0 _ rfl, h.cell 1 _ rfl, h.cell 2 _ rfl, h.cell 3 _ rfl, h.cell 4 _ rfl, h.cell 5 _ rfl, h.cell 6 _ rfl, h.cell 7 _ rfl, h.cell 8 _ rfl, h.cell 9 _ rfl, h.cell 10 _ rfl, h.cell 11 _ rfl, h.cell 12 _ rfl, h.cell 13 _ rfl, h.cell 14 _ rfl, h.cell 15 _ rfl, h.cell 16 _ rfl, h.cell 17 _ rfl⟩
theorem BxC.allF {w : World} {g : Nat} {c : Cm} (h : BxC w g c) : w.frozen? ⟨g, 0, none⟩ = false ∧ w.frozen? ⟨g, 1, none⟩ = false ∧ w.frozen? ⟨g, 2, none⟩ = false ∧ w.frozen? ⟨g, 3, none⟩ = false ∧ w.frozen? ⟨g, 4, none⟩ = false ∧ w.frozen? ⟨g, 5, none⟩ = false ∧ w.frozen? ⟨g, 6, none⟩ = false ∧ w.frozen? ⟨g, 7, none⟩ = false ∧ w.frozen? ⟨g, 8, none⟩ = false ∧ w.frozen? ⟨g, 9, none⟩ = false ∧ w.frozen? ⟨g, 10, none⟩ = false ∧ w.frozen? ⟨g, 11, none⟩ = false ∧ w.frozen? ⟨g, 12, none⟩ = false ∧ w.frozen? ⟨g, 13, none⟩ = false ∧ w.frozen? ⟨g, 14, none⟩ = false ∧ w.frozen? ⟨g, 15, none⟩ = false ∧ w.frozen? ⟨g, 16, none⟩ = false ∧ w.frozen? ⟨g, 17, none⟩ = false :=
  ⟨h.free 0 (by decide), h.free 1 (by decide), h.free 2 (by decide), h.free 3 (by decide), h.free 4 (by decide), h.free 5 (by decide), h.free 6 (by decide), h.free 7 (by decide), h.free 8 (by decide), h.free 9 (by decide), h.free 10 (by decide), h.free 11 (by decide), h.free 12 (by decide), h.free 13 (by decide), h.free 14 (by decide), h.free 15 (by decide), h.free 16 (by decide), h.free 17 (by decide)⟩
/-- A command that is stored into a box. -/
theorem BxC.stored {w : World} {g : Nat} {d : Cm} (h : BxC w g d) (c : Cm) : BxC (setFrom w g 0 c.vals) g c ∧ Upd g w (setFrom w g 0 c.vals) := ⟨(h.v.set (vs := c.vals) rfl).c, setFrom_upd g _ w 0⟩
end Go.Proofs.YtoekggbbkcmknaaGreatDoor
/- A part's functions, taken out. -/
namespace Go.Proofs.YtoekggbbkcmknaaGreatDoor
open Go.RowKit
variable (fh fl fp fg : FuncId) (ch cl cp cg : Array Value) (w : World)
theorem fpart0 : (Instr.field 105 (.agg #[.func (.func fh) #[] ch, .func (.func fl) #[] cl, .func (.func fp) #[] cp, .func (.func fg) #[] cg]) 0).run Tryz.prog w = .ok (.func (.func fh) #[] ch) w := by
  simp [Instr.field, go_sem, asAgg]
theorem fpart1 : (Instr.field 105 (.agg #[.func (.func fh) #[] ch, .func (.func fl) #[] cl, .func (.func fp) #[] cp, .func (.func fg) #[] cg]) 1).run Tryz.prog w = .ok (.func (.func fl) #[] cl) w := by
  simp [Instr.field, go_sem, asAgg]
theorem fpart2 : (Instr.field 105 (.agg #[.func (.func fh) #[] ch, .func (.func fl) #[] cl, .func (.func fp) #[] cp, .func (.func fg) #[] cg]) 2).run Tryz.prog w = .ok (.func (.func fp) #[] cp) w := by
  simp [Instr.field, go_sem, asAgg]
theorem fpart3 : (Instr.field 105 (.agg #[.func (.func fh) #[] ch, .func (.func fl) #[] cl, .func (.func fp) #[] cp, .func (.func fg) #[] cg]) 3).run Tryz.prog w = .ok (.func (.func fg) #[] cg) w := by
  simp [Instr.field, go_sem, asAgg]
end Go.Proofs.YtoekggbbkcmknaaGreatDoor
/- Commands as one value: what is loaded, stored, laid, compared whole. -/
namespace Go.Proofs.YtoekggbbkcmknaaGreatDoor
open Go.RowKit
theorem vals_one (c : Cm) : ∀ v ∈ c.vals, v.oneCell' = true := by intro v hv; simp [Cm.vals] at hv; rcases hv with rfl | rfl | rfl | rfl | rfl | rfl | rfl | rfl | rfl | rfl | rfl | rfl | rfl | rfl | rfl | rfl | rfl | rfl <;> rfl
theorem agg_cells (c : Cm) : c.agg.cells = c.vals.toArray := rfl
theorem add_off (g o j : Nat) : (⟨g, o, none⟩ : Addr).add j = ⟨g, o + j, none⟩ := by
  unfold Addr.add; split <;> simp_all
theorem storeCells_set (P : Program) (g : Nat) : ∀ (l : List Value) (o : Nat) (w : World), (∀ v ∈ l, v.oneCell' = true) → (∀ j, j < l.length → (w.cell? ⟨g, o + j, none⟩).isSome ∧ w.frozen? ⟨g, o + j, none⟩ = false) →
    (storeCells ⟨g, 0, none⟩ l o).run P w = .ok () (setFrom w g o l)
  | [], o, w, _, _ => rfl
  | v :: l, o, w, h1, h2 => by
    have h0 := h2 0 (by simp)
    obtain ⟨u, hu⟩ := Option.isSome_iff_exists.1 h0.1
    rw [Nat.add_zero] at hu
    have hf := h0.2
    rw [Nat.add_zero] at hf
    have hst : (store ((⟨g, 0, none⟩ : Addr).add o) v).run P w = .ok () (w.setCell ⟨g, o, none⟩ v) := by
      rw [add_off, Nat.zero_add, run_store P w _ v _ (h1 v (by simp)), hu]
      simp [hf]
    simp only [storeCells, Sem.run_bind, hst, Result.andThen_ok]
    refine storeCells_set P g l (o + 1) _ (fun x hx => h1 x (by simp [hx])) (fun j hj => ?_)
    have h3 := h2 (j + 1) (by simpa using hj)
    rw [show o + (j + 1) = o + 1 + j by omega] at h3
    rw [World.cell?_setCell_other _ _ _ _ (fun e => by injection e with _ e; omega), World.frozen?_setCell]
    exact h3
theorem info_size {T : TypeId} {n : Nat} (h : (Tryz.prog.info? T).map (fun i => i.size) = some n) : ∃ i, Tryz.prog.info? T = some i ∧ i.size = n := by
  cases hq : Tryz.prog.info? T with
  | none => simp [hq] at h
  | some i => exact ⟨i, rfl, by simpa [hq] using h⟩
def zeroC : Sem Value := zeroValue 32
def newC (v : Value) : Sem Addr := newVar 32 v
def loadC (a : Addr) : Sem Value := loadVar 32 a
def storeC (a : Addr) (v : Value) : Sem Unit := storeVar 32 a v
def buildC (ps : Array (Nat × Value)) : Sem Value := Instr.build 32 ps
theorem zeroC_eq : zeroValue 32 = zeroC := rfl
theorem newC_eq (v : Value) : newVar 32 v = newC v := rfl
theorem loadC_eq (a : Addr) : loadVar 32 a = loadC a := rfl
theorem storeC_eq (a : Addr) (v : Value) : storeVar 32 a v = storeC a v := rfl
theorem buildC_eq (ps : Array (Nat × Value)) : Instr.build 32 ps = buildC ps := rfl
/-- A command as it lies. -/
def objC (c : Cm) : Obj := .cells c.vals.toArray 32
theorem sizeC : (Tryz.prog.info? 32).map (fun i => i.size) = some 18 := by kernel_rfl
theorem zeroC_val : (Tryz.prog.info? 32).bind (fun i => i.zero) = some (Cm.zero 0).agg := by kernel_rfl
theorem run_zeroC (w : World) : zeroC.run Tryz.prog w = .ok (Cm.zero 0).agg w := by
  unfold zeroC zeroValue typeInfo
  cases hq : Tryz.prog.info? 32 with
  | none => have := zeroC_val; simp [hq] at this
  | some i =>
    have hz : i.zero = some (Cm.zero 0).agg := by have := zeroC_val; simpa [hq] using this
    simp [Sem.run_bind, hq, hz]
theorem run_newC (c : Cm) (w : World) : (newC c.agg).run Tryz.prog w = .ok ⟨w.heap.size, 0, none⟩ (w.alloc (objC c)) := by
  rfl
theorem run_loadC {w : World} {g : Nat} {c : Cm} (h : BxC w g c) : (loadC ⟨g, 0, none⟩).run Tryz.prog w = .ok c.agg w := by
  obtain ⟨i, hq, hs⟩ := info_size sizeC
  have hl : (loadCells ⟨g, 0, none⟩ c.vals.length).run Tryz.prog w = .ok c.vals.toArray w :=
    run_loadCells_list (P := Tryz.prog) w ⟨g, 0, none⟩ c.vals (fun j v hv => by rw [add_off, Nat.zero_add]; exact h.cell j v hv)
  have hl' : (loadCells ⟨g, 0, none⟩ 18).run Tryz.prog w = .ok c.vals.toArray w := hl
  have hagg : (isAgg 32).run Tryz.prog w = .ok true w := by
    unfold isAgg
    rw [Sem.run_bind, run_underlying Tryz.underlying32 w]
    simp
  unfold loadC loadVar
  simp only [Sem.run_bind, hagg, Result.andThen_ok, if_true, sizeOf, typeInfo]
  simp [hs, hl', hq]
  rfl
theorem run_storeC {w : World} {g : Nat} {d : Cm} (h : BxC w g d) (c : Cm) : (storeC ⟨g, 0, none⟩ c.agg).run Tryz.prog w = .ok () (setFrom w g 0 c.vals) := by
  obtain ⟨i, hq, hs⟩ := info_size sizeC
  have h1 := storeCells_set Tryz.prog g c.vals 0 w (vals_one c) (fun j hj => by
    have hj' : j < d.vals.length := hj
    refine ⟨?_, ?_⟩
    · rw [Nat.zero_add, h.cell j _ (List.getElem?_eq_getElem hj')]; rfl
    · rw [Nat.zero_add]; exact h.free j hj)
  unfold storeC storeVar
  rw [agg_cells]
  have hsz : c.vals.toArray.size = 18 := rfl
  simp [sizeOf, typeInfo, hq, hs, hsz, h1]
theorem run_buildC0 (w : World) : (buildC #[]).run Tryz.prog w = .ok (Cm.zero 0).agg w := by
  unfold buildC
  simp [go_sem]
  rfl
theorem run_buildC1 (k : Int) (w : World) : (buildC #[(0, .int .i64 k)]).run Tryz.prog w = .ok (Cm.zero k).agg w := by
  unfold buildC
  simp [go_sem]
  rfl
theorem run_neqC (c d : Cm) (w : World) : (binOp .neq 32 c.agg d.agg).run Tryz.prog w = .ok (.bool (!decide (c = d))) w := by
  show (binOp .neq 32 (.agg _) (.agg _)).run Tryz.prog w = _
  rw [run_neq_struct]
  have := eqAgg c d w
  unfold Cm.agg at this
  rw [this]
  rfl
theorem run_eqlC (c d : Cm) (w : World) : (binOp .eql 32 c.agg d.agg).run Tryz.prog w = .ok (.bool (decide (c = d))) w := by
  show (binOp .eql 32 (.agg _) (.agg _)).run Tryz.prog w = _
  rw [run_eql_struct]
  have := eqAgg c d w
  unfold Cm.agg at this
  rw [this]
  rfl
theorem run_guardC (op : BinOp) (x y : Operand) (c d : Cm) (w : World) : (eqGuard op 32 x y c.agg d.agg).run Tryz.prog w = .ok () w := by
  show (eqGuard op 32 x y (.agg _) (.agg _)).run Tryz.prog w = _
  exact run_eqGuard_agg w op 32 x y _ _ (by kernel_rfl)
theorem resC {fn : Func} {p : Tmp} (h : fn.results = #[.cell p 32]) (tmps : Array Value) {w : World} {g : Nat} {v : Value} (hp : tmps.getD p undef = .pointer (some ⟨g, 0, none⟩)) (hl : (loadC ⟨g, 0, none⟩).run Tryz.prog w = .ok v w) :
    (results fn tmps).run Tryz.prog w = .ok v w := by
  have hp' : tmps[p]?.getD undef = .pointer (some ⟨g, 0, none⟩) := by simpa using hp
  have hl' : (loadVar 32 ⟨g, 0, none⟩).run Tryz.prog w = .ok v w := hl
  simp [results, h, hp', asAddr, hl']
theorem BxC.newC (w : World) (c : Cm) : BxC (w.alloc (objC c)) w.heap.size c := BxC.new w c 32
def zeroR : Sem Value := zeroValue 40
def newR (v : Value) : Sem Addr := newVar 40 v
def loadR (a : Addr) : Sem Value := loadVar 40 a
def storeR (a : Addr) (v : Value) : Sem Unit := storeVar 40 a v
def buildR (ps : Array (Nat × Value)) : Sem Value := Instr.build 40 ps
theorem zeroR_eq : zeroValue 40 = zeroR := rfl
theorem newR_eq (v : Value) : newVar 40 v = newR v := rfl
theorem loadR_eq (a : Addr) : loadVar 40 a = loadR a := rfl
theorem storeR_eq (a : Addr) (v : Value) : storeVar 40 a v = storeR a v := rfl
theorem buildR_eq (ps : Array (Nat × Value)) : Instr.build 40 ps = buildR ps := rfl
/-- A command as it lies. -/
def objR (c : Cm) : Obj := .cells c.vals.toArray 40
theorem sizeR : (Tryz.prog.info? 40).map (fun i => i.size) = some 18 := by kernel_rfl
theorem zeroR_val : (Tryz.prog.info? 40).bind (fun i => i.zero) = some (Cm.zero 0).agg := by kernel_rfl
theorem run_zeroR (w : World) : zeroR.run Tryz.prog w = .ok (Cm.zero 0).agg w := by
  unfold zeroR zeroValue typeInfo
  cases hq : Tryz.prog.info? 40 with
  | none => have := zeroR_val; simp [hq] at this
  | some i =>
    have hz : i.zero = some (Cm.zero 0).agg := by have := zeroR_val; simpa [hq] using this
    simp [Sem.run_bind, hq, hz]
theorem run_newR (c : Cm) (w : World) : (newR c.agg).run Tryz.prog w = .ok ⟨w.heap.size, 0, none⟩ (w.alloc (objR c)) := by
  rfl
theorem run_loadR {w : World} {g : Nat} {c : Cm} (h : BxC w g c) : (loadR ⟨g, 0, none⟩).run Tryz.prog w = .ok c.agg w := by
  obtain ⟨i, hq, hs⟩ := info_size sizeR
  have hl : (loadCells ⟨g, 0, none⟩ c.vals.length).run Tryz.prog w = .ok c.vals.toArray w :=
    run_loadCells_list (P := Tryz.prog) w ⟨g, 0, none⟩ c.vals (fun j v hv => by rw [add_off, Nat.zero_add]; exact h.cell j v hv)
  have hl' : (loadCells ⟨g, 0, none⟩ 18).run Tryz.prog w = .ok c.vals.toArray w := hl
  have hagg : (isAgg 40).run Tryz.prog w = .ok true w := by
    unfold isAgg
    rw [Sem.run_bind, run_underlying Tryz.underlying40 w]
    simp
  unfold loadR loadVar
  simp only [Sem.run_bind, hagg, Result.andThen_ok, if_true, sizeOf, typeInfo]
  simp [hs, hl', hq]
  rfl
theorem run_storeR {w : World} {g : Nat} {d : Cm} (h : BxC w g d) (c : Cm) : (storeR ⟨g, 0, none⟩ c.agg).run Tryz.prog w = .ok () (setFrom w g 0 c.vals) := by
  obtain ⟨i, hq, hs⟩ := info_size sizeR
  have h1 := storeCells_set Tryz.prog g c.vals 0 w (vals_one c) (fun j hj => by
    have hj' : j < d.vals.length := hj
    refine ⟨?_, ?_⟩
    · rw [Nat.zero_add, h.cell j _ (List.getElem?_eq_getElem hj')]; rfl
    · rw [Nat.zero_add]; exact h.free j hj)
  unfold storeR storeVar
  rw [agg_cells]
  have hsz : c.vals.toArray.size = 18 := rfl
  simp [sizeOf, typeInfo, hq, hs, hsz, h1]
theorem run_buildR0 (w : World) : (buildR #[]).run Tryz.prog w = .ok (Cm.zero 0).agg w := by
  unfold buildR
  simp [go_sem]
  rfl
theorem run_buildR1 (k : Int) (w : World) : (buildR #[(0, .int .i64 k)]).run Tryz.prog w = .ok (Cm.zero k).agg w := by
  unfold buildR
  simp [go_sem]
  rfl
theorem run_neqR (c d : Cm) (w : World) : (binOp .neq 40 c.agg d.agg).run Tryz.prog w = .ok (.bool (!decide (c = d))) w := by
  show (binOp .neq 40 (.agg _) (.agg _)).run Tryz.prog w = _
  rw [run_neq_struct]
  have := eqAggR c d w
  unfold Cm.agg at this
  rw [this]
  rfl
theorem run_eqlR (c d : Cm) (w : World) : (binOp .eql 40 c.agg d.agg).run Tryz.prog w = .ok (.bool (decide (c = d))) w := by
  show (binOp .eql 40 (.agg _) (.agg _)).run Tryz.prog w = _
  rw [run_eql_struct]
  have := eqAggR c d w
  unfold Cm.agg at this
  rw [this]
  rfl
theorem run_guardR (op : BinOp) (x y : Operand) (c d : Cm) (w : World) : (eqGuard op 40 x y c.agg d.agg).run Tryz.prog w = .ok () w := by
  show (eqGuard op 40 x y (.agg _) (.agg _)).run Tryz.prog w = _
  exact run_eqGuard_agg w op 40 x y _ _ (by kernel_rfl)
theorem resR {fn : Func} {p : Tmp} (h : fn.results = #[.cell p 40]) (tmps : Array Value) {w : World} {g : Nat} {v : Value} (hp : tmps.getD p undef = .pointer (some ⟨g, 0, none⟩)) (hl : (loadR ⟨g, 0, none⟩).run Tryz.prog w = .ok v w) :
    (results fn tmps).run Tryz.prog w = .ok v w := by
  have hp' : tmps[p]?.getD undef = .pointer (some ⟨g, 0, none⟩) := by simpa using hp
  have hl' : (loadVar 40 ⟨g, 0, none⟩).run Tryz.prog w = .ok v w := hl
  simp [results, h, hp', asAddr, hl']
theorem BxC.newR (w : World) (c : Cm) : BxC (w.alloc (objR c)) w.heap.size c := BxC.new w c 40
end Go.Proofs.YtoekggbbkcmknaaGreatDoor
/- A command with no more than its kind tells. -/
namespace Go.Proofs.YtoekggbbkcmknaaGreatDoor
open Go.RowKit
attribute [local go_sem ↓] zeroC_eq newC_eq loadC_eq storeC_eq buildC_eq zeroR_eq newR_eq loadR_eq storeR_eq buildR_eq
attribute [local go_sem] run_zeroC run_newC run_buildC0 run_buildC1 run_neqC run_eqlC run_guardC run_zeroR run_newR run_buildR0 run_buildR1 run_neqR run_eqlR run_guardR
theorem told_start (c : Cm) (w : World) : ∃ W, W = setFrom (((w.alloc (objC c)).alloc (objC (Cm.zero 0))).alloc (objC (Cm.zero 0))) (w.heap.size + 1 + 1) 0 (Cm.zero c.kind).vals ∧ (storeC ⟨w.heap.size + 1 + 1, 0, none⟩ (Cm.zero c.kind).agg).run Tryz.prog (((w.alloc (objC c)).alloc (objC (Cm.zero 0))).alloc (objC (Cm.zero 0))) = .ok () W ∧
    BxC W w.heap.size c ∧ BxC W (w.heap.size + 1) (Cm.zero 0) ∧ BxC W (w.heap.size + 1 + 1) (Cm.zero c.kind) ∧ Below w.heap.size w W ∧ W.heap.size = w.heap.size + 1 + 1 + 1 := by
  have h1 : BxC (((w.alloc (objC c)).alloc (objC (Cm.zero 0))).alloc (objC (Cm.zero 0))) w.heap.size c := ((BxC.newC w c).alloc _).alloc _
  have h2 : BxC (((w.alloc (objC c)).alloc (objC (Cm.zero 0))).alloc (objC (Cm.zero 0))) (w.heap.size + 1) (Cm.zero 0) := by
    have := (BxC.newC (w.alloc (objC c)) (Cm.zero 0)).alloc (objC (Cm.zero 0))
    simpa only [World.size_alloc] using this
  have h3 : BxC (((w.alloc (objC c)).alloc (objC (Cm.zero 0))).alloc (objC (Cm.zero 0))) (w.heap.size + 1 + 1) (Cm.zero 0) := by
    have := BxC.newC ((w.alloc (objC c)).alloc (objC (Cm.zero 0))) (Cm.zero 0)
    simpa only [World.size_alloc] using this
  have hs := h3.stored (Cm.zero c.kind)
  refine ⟨_, rfl, run_storeC h3 _, h1.upd hs.2 (by omega), h2.upd hs.2 (by omega), hs.1, ?_, by rw [hs.2.size]; simp⟩
  exact ((((Below.refl _ _).alloc (Nat.le_refl _) _).alloc (by simp) _).alloc (by simp; omega) _).trans (hs.2.below (by omega))
set_option maxRecDepth 1000000 in
theorem told_any (c : Cm) (hk : 1 ≤ c.kind ∧ c.kind ≤ 13) (w : World) (hF : Forms w) :
    Calls Tryz.prog 57 #[c.agg] w fun e w' => e = .returned (told c).agg ∧ Below w.heap.size w w' := by
  obtain ⟨hk1, hk2⟩ := hk
  obtain ⟨W, hW, hst, hC0, hZ0, hT0, hB0, hsz⟩ := told_start c w
  have hk00 := (BxC.newC w c).cell 0 _ rfl
  have hf := (hF.below hB0 hF.lt) c.kind hk1 hk2
  have hk0 := hC0.cell 0 _ rfl
  have HC := Lib.hid hC0
  have HZ := Lib.hid hZ0
  have HT := Lib.hid hT0
  have HB := Lib.hid hB0
  have HSZ := Lib.hid hsz
  clear hF hsz hC0 hZ0 hT0 hB0
  generalize hw : told c = tc
  have HW := Lib.hid hw
  clear hw
  clear hW
  go_enter Tryz.func57, Tryz.ntmps57
  go_wp2
  go_loopg [] (form c.kind).length (fun n wr => ∃ m, m + n = (form c.kind).length ∧ BxC wr (w.heap.size + 1 + 1) (((form c.kind).take m).foldl (fun t s => s.hand t c) (Cm.zero c.kind)) ∧ BxC wr w.heap.size c ∧ BxC wr (w.heap.size + 1) (Cm.zero 0) ∧ wr.heap[W.heap.size]? = some (.stringIter (formS c.kind) m) ∧ Below w.heap.size w wr)
  case atStart => exact ⟨0, by omega, HT.out.iter _ _, HC.out.iter _ _, HZ.out.iter _ _, iter_at _ _ _, iter_below HB.out (by have := HSZ.out; omega) _ _⟩
  case round =>
    obtain ⟨m, hm, hT, hC, hZ, hI, hB⟩ := hrel
    have hsz := HSZ.out
    by_cases hlt : m < (form c.kind).length
    · obtain ⟨s, hs⟩ : ∃ s, (form c.kind)[m]? = some s := ⟨_, List.getElem?_eq_getElem hlt⟩
      have hnx : ∀ ty, (Instr.next (.pointer (some ⟨W.heap.size, 0, none⟩)) true ty).run Tryz.prog wr = _ := fun ty => next_sign Tryz.prog wr _ _ m s ty hI hs
      have hu := iter_upd wr W.heap.size (formS c.kind) (m + 1)
      have hI1 := Lib.iterAt_heap wr W.heap.size (formS c.kind) m (m + 1) hI
      have HT := Lib.hid (hT.upd hu (by omega))
      have HC := Lib.hid (hC.upd hu (by omega))
      have HZ := Lib.hid (hZ.upd hu (by omega))
      have HB := Lib.hid (Lib.below_iterAt hB (k := W.heap.size) (by omega) (formS c.kind) (m + 1))
      have HI := Lib.hid hI1
      have HL := Lib.hid (show W.heap.size < (wr.iterAt W.heap.size (formS c.kind) (m + 1)).heap.size from (Array.getElem?_eq_some_iff.1 hI1).1)
      have HS := Lib.hid hs
      have HM := Lib.hid hm
      clear hT hC hZ hI hB hI1 hs hu hm hlt hsz hst hf hk0 hk00
      go_wp2_with (first
        | (go_at_call 46; refine (field_any s _).mono ?_; rintro e w2 ⟨P, rfl, ⟨fh, fl, fp, fg, ch, cl, cp, cg, rfl, ⟨e1, _, _, _⟩, hH, _, _, _⟩, hb⟩; have HT2 := Lib.hid (HT.out.below hb); have HC2 := Lib.hid (HC.out.below hb); have HZ2 := Lib.hid (HZ.out.below hb); have HB2 := Lib.hid (HB.out.trans (hb.mono (Nat.le_of_lt (Nat.lt_of_le_of_lt (by have := HSZ.out; omega) HL.out)))); have HI2 := Lib.hid ((hb.block _ HL.out).trans HI.out); have HH := Lib.hid (fun (W' : World) (hW : W'.heap = w2.heap) (h1 : BxC W' (w.heap.size + 1 + 1) (((form c.kind).take m).foldl (fun t s => s.hand t c) (Cm.zero c.kind))) (h2 : BxC W' w.heap.size c) => hH W' _ _ _ _ (Stay.heap hW) h1 h2); unfold Ent at e1; have p0 := fun W => fpart0 fh fl fp fg ch cl cp cg W; clear hH)
        | ((with_reducible refine (HH.out _ rfl HT2.out HC2.out).mono ?_); rintro e w3 ⟨rfl, hT3, hu3⟩))
      go_roundg (gk - 1)
      case rel =>
        have hne : ∀ (k : Nat), k ≠ w.heap.size + 1 + 1 → w3.heap[k]? = w2.heap[k]? := hu3.block
        have hm1 := HM.out
        have hl1 := (List.getElem?_eq_some_iff.1 HS.out).1
        have hsz := HSZ.out
        refine ⟨m + 1, by omega, ?_, HC2.out.upd hu3 (by omega), HZ2.out.upd hu3 (by omega), (hne _ (by omega)).trans HI2.out, HB2.out.trans (hu3.below (by omega))⟩
        rw [fold_snoc _ _ _ _ _ HS.out]
        exact hT3
      case measure =>
        have hm1 := HM.out
        have hl1 := (List.getElem?_eq_some_iff.1 HS.out).1
        omega
    · obtain rfl : m = (form c.kind).length := by omega
      rw [List.take_length] at hT
      have hT' : BxC wr (w.heap.size + 1 + 1) tc := by rw [← HW.out]; exact hT
      clear hT HW
      have hnx : ∀ ty, (Instr.next (.pointer (some ⟨W.heap.size, 0, none⟩)) true ty).run Tryz.prog wr = _ := fun ty => next_end Tryz.prog wr _ _ ty hI
      have hl := run_loadC hT'
      have hst2 := run_storeC hZ tc
      obtain ⟨hz1, hz2⟩ := hZ.stored tc
      have HR := Lib.hid (run_loadC hz1)
      have HB2 := Lib.hid (hB.trans (hz2.below (Nat.le_succ _)))
      clear hT' hC hZ hI hB hlt hm hz1 hz2 hsz hst hf hk0 hk00
      go_wp2
      exact bodyPost_ret_by (v := tc.agg) (resC Tryz.results57 _ rfl HR.out) rfl ⟨rfl, HB2.out⟩
end Go.Proofs.YtoekggbbkcmknaaGreatDoor
/- What is wrong with a command. -/
namespace Go.Proofs.YtoekggbbkcmknaaGreatDoor
open Go.RowKit
attribute [local go_sem ↓] zeroC_eq newC_eq loadC_eq storeC_eq buildC_eq zeroR_eq newR_eq loadR_eq storeR_eq buildR_eq
attribute [local go_sem] run_zeroC run_newC run_buildC0 run_buildC1 run_neqC run_eqlC run_guardC run_zeroR run_newR run_buildR0 run_buildR1 run_neqR run_eqlR run_guardR
theorem known_any (k : Int) (w : World) : Calls Tryz.prog 44 #[.int .i64 k] w fun e w' => e = .returned (.bool (known k)) ∧ w = w' := by
  unfold known
  by_cases h1 : 1 ≤ k
  · rw [decide_eq_true h1, Bool.true_and]
    go_enter Tryz.func44, Tryz.ntmps44
    go_wp2
    go_ret
    exact ⟨rfl, rfl⟩
  · rw [decide_eq_false h1, Bool.false_and]
    go_enter Tryz.func44, Tryz.ntmps44
    go_wp2
    go_ret
    exact ⟨rfl, rfl⟩
theorem known_iff {k : Int} : known k = true ↔ 1 ≤ k ∧ k ≤ 13 := by unfold known; simp
/-- What the region that asks for the form holds. -/
def HoldW (w0 : World) (g : Nat) (c : Cm) (w1 : World) : Prop := (loadC ⟨g, 0, none⟩).run Tryz.prog w1 = .ok c.agg w1 ∧ w1.cell? ⟨g, 7, none⟩ = some (.int .i64 c.bk) ∧ BxC w1 g c ∧ Forms w1 ∧ Below w0.heap.size w0 w1
theorem heldW {w0 w1 w2 : World} {g : Nat} {c : Cm} (h : HoldW w0 g c w1) (hb : Below w1.heap.size w1 w2) : HoldW w0 g c w2 := by
  have hB := h.2.2.1.below hb
  exact ⟨run_loadC hB, hB.cell 7 _ rfl, hB, h.2.2.2.1.below hb h.2.2.2.1.lt, h.2.2.2.2.trans (hb.mono h.2.2.2.2.size)⟩
theorem heldWd {w0 w1 : World} {g : Nat} {c : Cm} (h : HoldW w0 g c w1) : HoldW w0 g c w1.drew := by
  have hB := h.2.2.1.drew
  exact ⟨run_loadC hB, hB.cell 7 _ rfl, hB, h.2.2.2.1.keep rfl, h.2.2.2.2.drew⟩
theorem heldForms {w0 w1 : World} {g : Nat} {c : Cm} (h : HoldW w0 g c w1) : Forms w1 := h.2.2.2.1
theorem heldW0 {w : World} {g : Nat} {c : Cm} (h : BxC w g c) (hF : Forms w) : HoldW w g c w := ⟨run_loadC h, h.cell 7 _ rfl, h, hF, Below.refl _ _⟩
set_option maxRecDepth 1000000 in
theorem wrong_bad (c : Cm) (w : World) (hF : Forms w) (hkn : 1 ≤ c.kind ∧ c.kind ≤ 13) (hb : c ≠ told c ∨ c.bk < 0 ∨ 255 < c.bk) :
    Calls Tryz.prog 32 #[c.agg] w fun e w' => e = .returned (.int .i64 4) ∧ Below w.heap.size w w' := by
  have hk00 := (BxC.newC w c).cell 0 _ rfl
  have HK := Lib.hid (fun W => known_any c.kind W)
  rw [known_iff.2 hkn] at HK
  have HT := Lib.hid (fun W (hW : Forms W) => told_any c hkn W hW)
  have HS0 := Lib.hid (heldW0 (BxC.newC w c) (hF.alloc _))
  have HS1 := Lib.hid (heldWd HS0.out)
  have hl1 := HS1.out.1
  have hc1 := HS1.out.2.1
  have HB0 := Lib.hid ((Below.refl w.heap.size w).alloc (Nat.le_refl _) (objC c))
  rcases Classical.em (c = told c) with h1 | h1
  · rw [← h1] at HT
    have hb' : c.bk < 0 ∨ 255 < c.bk := by
      rcases hb with h | h
      · exact absurd h1 h
      · exact h
    clear hb h1 hF
    rcases Classical.em (c.bk < 0) with h2 | h2
    · clear hb'
      go_enter Tryz.func32, Tryz.ntmps32
      go_wp2_with (go_at_call 44; refine (HK.out _).mono ?_; rintro e w1 ⟨rfl, rfl⟩)
      first | (go_region_with (first | (go_at_call 57; (with_reducible refine (HT.out _ ?_).mono ?_); (next => exact HS1.out.2.2.2.1); rintro e w2 ⟨rfl, hb⟩; have HS2 := heldW HS1.out hb; have hl2 := HS2.1; have hc2 := HS2.2.1))) | (fail)
      all_goals
        go_wp2
        go_ret
        exact ⟨rfl, HB0.out.trans (HS2.2.2.2.2.mono (by simp))⟩
    · have h3 : 255 < c.bk := by omega
      have hd2 : decide (c.bk < 0) = false := decide_eq_false h2
      clear h2
      clear hb' hl1 hc1
      go_enter Tryz.func32, Tryz.ntmps32
      go_wp2_with (go_at_call 44; refine (HK.out _).mono ?_; rintro e w1 ⟨rfl, rfl⟩)
      go_region_held3 (fun w' => (loadC ⟨w.heap.size, 0, none⟩).run Tryz.prog w' = .ok c.agg w' ∧ w'.cell? ⟨w.heap.size, 7, none⟩ = some (.int .i64 c.bk) ∧ BxC w' w.heap.size c ∧ Forms w' ∧ Below (w.alloc (objC c)).heap.size (w.alloc (objC c)) w')
        ((first | assumption | exact HS0.out | exact heldWd HS0.out | exact heldW ‹_› hb | exact heldWd ‹_›))
        (first | (go_at_call 57; (with_reducible refine (HT.out _ ?_).mono ?_); (next => exact heldForms (w0 := w.alloc (objC c)) (g := w.heap.size) (c := c) ‹_›); rintro e w2 ⟨rfl, hb⟩))
      rename_i hS
      have hx := hS.2.2.2.2
      clear hS
      go_wp2
      go_ret
      exact ⟨rfl, HB0.out.trans (hx.mono (by simp))⟩
  · have hd : decide (c = told c) = false := decide_eq_false h1
    clear hb h1 hF
    go_enter Tryz.func32, Tryz.ntmps32
    go_wp2_with (go_at_call 44; refine (HK.out _).mono ?_; rintro e w1 ⟨rfl, rfl⟩)
    first | (go_region_with (first | (go_at_call 57; (with_reducible refine (HT.out _ ?_).mono ?_); (next => exact HS1.out.2.2.2.1); rintro e w2 ⟨rfl, hb⟩; have HS2 := heldW HS1.out hb; have hl2 := HS2.1; have hc2 := HS2.2.1))) | (fail)
    all_goals
      go_wp2
      go_ret
      exact ⟨rfl, HB0.out.trans (HS2.2.2.2.2.mono (by simp))⟩
set_option maxRecDepth 1000000 in
theorem wrong_any (c : Cm) (w : World) (hF : Forms w) :
    Calls Tryz.prog 32 #[c.agg] w fun e w' => e = .returned (.int .i64 (wrongC c)) ∧ Below w.heap.size w w' := by
  unfold wrongC
  by_cases hk : known c.kind = false
  · rw [if_pos hk]
    have hk00 := (BxC.newC w c).cell 0 _ rfl
    have HK := Lib.hid (fun W => known_any c.kind W)
    rw [hk] at HK
    clear hk
    go_enter Tryz.func32, Tryz.ntmps32
    go_wp2_with (go_at_call 44; refine (HK.out _).mono ?_; rintro e w1 ⟨rfl, rfl⟩)
    go_ret
    exact ⟨rfl, (Below.refl _ _).alloc (Nat.le_refl _) _⟩
  · rw [if_neg hk]
    have hkn := known_iff.1 (by simpa using hk)
    clear hk
    by_cases hb : c ≠ told c ∨ c.bk < 0 ∨ 255 < c.bk
    · rw [if_pos hb]
      exact wrong_bad c w hF hkn hb
    · rw [if_neg hb]
      have hk00 := (BxC.newC w c).cell 0 _ rfl
      have HK := Lib.hid (fun W => known_any c.kind W)
      rw [known_iff.2 hkn] at HK
      have h1 : told c = c := Classical.not_not.1 fun h => hb (.inl fun h' => h h'.symm)
      have HT := Lib.hid (fun W (hW : Forms W) => told_any c hkn W hW)
      rw [h1] at HT
      have HS0 := Lib.hid (heldW0 (BxC.newC w c) (hF.alloc _))
      have HB0 := Lib.hid ((Below.refl w.heap.size w).alloc (Nat.le_refl _) (objC c))
      have hd2 : decide (c.bk < 0) = false := decide_eq_false fun h => hb (.inr (.inl h))
      have hd3 : decide (255 < c.bk) = false := decide_eq_false fun h => hb (.inr (.inr h))
      obtain ⟨hk1, hk2⟩ := hkn
      clear hb h1 hF
      generalize hr : (if ((form c.kind).any fun s => s.long c) = true then (5 : Int) else 0) = r
      have HR := Lib.hid hr
      clear hr
      go_enter Tryz.func32, Tryz.ntmps32
      go_wp2_with (go_at_call 44; refine (HK.out _).mono ?_; rintro e w1 ⟨rfl, rfl⟩)
      go_region_held3 (fun w' => (loadC ⟨w.heap.size, 0, none⟩).run Tryz.prog w' = .ok c.agg w' ∧ w'.cell? ⟨w.heap.size, 7, none⟩ = some (.int .i64 c.bk) ∧ BxC w' w.heap.size c ∧ Forms w' ∧ Below (w.alloc (objC c)).heap.size (w.alloc (objC c)) w')
        ((first | assumption | exact HS0.out | exact heldWd HS0.out | exact heldW ‹_› hb | exact heldWd ‹_›))
        (first | (go_at_call 57; (with_reducible refine (HT.out _ ?_).mono ?_); (next => exact heldForms (w0 := w.alloc (objC c)) (g := w.heap.size) (c := c) ‹_›); rintro e w2 ⟨rfl, hb⟩))
      rename_i hS
      obtain ⟨_, _, hC, hF, hB⟩ := hS
      have hB1 := HB0.out.trans (hB.mono (by simp))
      have hf := hF c.kind hk1 hk2
      have hk0 := hC.cell 0 _ rfl
      have HC := Lib.hid hC
      have HB := Lib.hid hB1
      have HL := Lib.hid hB.size
      clear hC hF hB hB1 hk00 hd2 hd3 HS0 HB0 HK HT
      go_wp2
      have HLw := Lib.hid (show w.heap.size + 1 ≤ w2.heap.size by have := HL.out; simpa using this)
      clear HL
      go_loopg [] (form c.kind).length (fun n wr => ∃ m, m + n = (form c.kind).length ∧ ((form c.kind).take m).any (fun s => s.long c) = false ∧ BxC wr w.heap.size c ∧ wr.heap[w2.heap.size]? = some (.stringIter (formS c.kind) m) ∧ Below w.heap.size w wr)
      case atStart => exact ⟨0, by omega, rfl, HC.out.iter _ _, iter_at _ _ _, iter_below HB.out (by have := HLw.out; omega) _ _⟩
      case round =>
        obtain ⟨m, hm, hA, hC, hI, hB⟩ := hrel
        have hsz := HLw.out
        by_cases hlt : m < (form c.kind).length
        · obtain ⟨s, hs⟩ : ∃ s, (form c.kind)[m]? = some s := ⟨_, List.getElem?_eq_getElem hlt⟩
          have hnx : ∀ ty, (Instr.next (.pointer (some ⟨w2.heap.size, 0, none⟩)) true ty).run Tryz.prog wr = _ := fun ty => next_sign Tryz.prog wr _ _ m s ty hI hs
          have hu := iter_upd wr w2.heap.size (formS c.kind) (m + 1)
          have hI1 := Lib.iterAt_heap wr w2.heap.size (formS c.kind) m (m + 1) hI
          have HC := Lib.hid (hC.upd hu (by omega))
          have HB := Lib.hid (Lib.below_iterAt hB (k := w2.heap.size) (by omega) (formS c.kind) (m + 1))
          have HI := Lib.hid hI1
          have HL2 := Lib.hid (show w2.heap.size < (wr.iterAt w2.heap.size (formS c.kind) (m + 1)).heap.size from (Array.getElem?_eq_some_iff.1 hI1).1)
          have HS := Lib.hid hs
          have HM := Lib.hid hm
          have HA := Lib.hid hA
          clear hA hC hI hB hI1 hs hu hm hlt hsz hf hk0
          by_cases hlg : s.long c = true
          · go_wp2_with (first
            | (go_at_call 46; refine (field_any s _).mono ?_; rintro e w4 ⟨P, rfl, ⟨fh, fl, fp, fg, ch, cl, cp, cg, rfl, ⟨_, e2, _, _⟩, _, hL, _, _⟩, hb⟩; have HC2 := Lib.hid (HC.out.below hb); have HB2 := Lib.hid (HB.out.trans (hb.mono (by have := HL2.out; have := HLw.out; omega))); have HI2 := Lib.hid ((hb.block _ HL2.out).trans HI.out); have HH := Lib.hid (fun (W' : World) (hW : W'.heap = w4.heap) (h2 : BxC W' w.heap.size c) => hL W' _ _ (Stay.heap hW) h2); unfold Ent at e2; have p0 := fun W => fpart1 fh fl fp fg ch cl cp cg W; rw [hlg] at HH; clear hL)
            | ((with_reducible refine (HH.out _ rfl HC2.out).mono ?_); rintro e w5 ⟨rfl, hb5⟩))
            go_ret
            refine ⟨?_, HB2.out.trans (hb5.mono (Below.size HB2.out))⟩
            have h6 : ((form c.kind).any fun s => s.long c) = true := by
              rw [List.any_eq_true]
              exact ⟨s, List.mem_of_getElem? HS.out, hlg⟩
            have h7 := HR.out
            rw [if_pos h6] at h7
            subst h7
            rfl
          · have hlg : s.long c = false := by simpa using hlg
            go_wp2_with (first
            | (go_at_call 46; refine (field_any s _).mono ?_; rintro e w4 ⟨P, rfl, ⟨fh, fl, fp, fg, ch, cl, cp, cg, rfl, ⟨_, e2, _, _⟩, _, hL, _, _⟩, hb⟩; have HC2 := Lib.hid (HC.out.below hb); have HB2 := Lib.hid (HB.out.trans (hb.mono (by have := HL2.out; have := HLw.out; omega))); have HI2 := Lib.hid ((hb.block _ HL2.out).trans HI.out); have HH := Lib.hid (fun (W' : World) (hW : W'.heap = w4.heap) (h2 : BxC W' w.heap.size c) => hL W' _ _ (Stay.heap hW) h2); unfold Ent at e2; have p0 := fun W => fpart1 fh fl fp fg ch cl cp cg W; rw [hlg] at HH; clear hL)
            | ((with_reducible refine (HH.out _ rfl HC2.out).mono ?_); rintro e w5 ⟨rfl, hb5⟩))
            go_roundg (gk - 1)
            case rel =>
              have hm1 := HM.out
              have hl1 := (List.getElem?_eq_some_iff.1 HS.out).1
              refine ⟨m + 1, by omega, ?_, HC2.out.below hb5, (hb5.block _ (Array.getElem?_eq_some_iff.1 HI2.out).1).trans HI2.out, HB2.out.trans (hb5.mono (Below.size HB2.out))⟩
              rw [List.take_add_one, HS.out, List.any_append, HA.out]
              simp [hlg]
            case measure =>
              have hm1 := HM.out
              have hl1 := (List.getElem?_eq_some_iff.1 HS.out).1
              omega
        · obtain rfl : m = (form c.kind).length := by omega
          rw [List.take_length] at hA
          have hnx : ∀ ty, (Instr.next (.pointer (some ⟨w2.heap.size, 0, none⟩)) true ty).run Tryz.prog wr = _ := fun ty => next_end Tryz.prog wr _ _ ty hI
          have h7 := HR.out
          rw [if_neg (by rw [hA]; decide)] at h7
          subst h7
          have HB := Lib.hid hB
          clear hA hC hI hB hlt hm hsz hf hk0 HR
          go_wp2
          go_ret
          exact ⟨rfl, HB.out⟩
end Go.Proofs.YtoekggbbkcmknaaGreatDoor
/- The command that stands next. -/
namespace Go.Proofs.YtoekggbbkcmknaaGreatDoor
open Go.RowKit
attribute [local go_sem ↓] zeroC_eq newC_eq loadC_eq storeC_eq buildC_eq zeroR_eq newR_eq loadR_eq storeR_eq buildR_eq
attribute [local go_sem] run_zeroC run_newC run_buildC0 run_buildC1 run_neqC run_eqlC run_guardC run_zeroR run_newR run_buildR0 run_buildR1 run_neqR run_eqlR run_guardR
theorem read_off {b g : Nat} {w W : World} (h0 : Mod b w W) (hg : w.heap.size ≤ g) {V : World} (h : OffL [g, b] W V) : Mod b w V :=
  ⟨h.os.trans h0.os, h.tape.trans h0.tape, h.output.trans h0.output, Nat.le_trans h0.size h.size, fun k hk hn => (h.block k (Nat.lt_of_lt_of_le hk h0.size) (by simp; omega)).trans (h0.block k hk hn)⟩
theorem mod_upd' {b g : Nat} {w W V : World} (h0 : Mod b w W) (hg : w.heap.size ≤ g) (h : Upd g W V) : Mod b w V :=
  ⟨h.os.trans h0.os, h.tape.trans h0.tape, h.output.trans h0.output, Nat.le_trans h0.size (Nat.le_of_eq h.size.symm), fun k hk hn => (h.block k (by omega)).trans (h0.block k hk hn)⟩
/-- What Read has laid ahead of the forms: its answer's box, and the command's. -/
theorem read_start (k : Int) {w w1 : World} {b : Nat} {r : ByteArray} {e : Int} (hb : b < w.heap.size) (hr : Rd w1 b r e) (hu : Upd b (w.alloc (objC (Cm.zero 0))) w1) :
    ∃ W, W = setFrom (w1.alloc (objC (Cm.zero 0))) w1.heap.size 0 (Cm.zero k).vals ∧ (storeC ⟨w.heap.size + 1, 0, none⟩ (Cm.zero k).agg).run Tryz.prog (w1.alloc (objC (Cm.zero 0))) = .ok () W ∧ w1.heap.size = w.heap.size + 1 ∧
      BxC W w.heap.size (Cm.zero 0) ∧ BxC W (w.heap.size + 1) (Cm.zero k) ∧ Rd W b r e ∧ Mod b w W ∧ W.heap.size = w.heap.size + 1 + 1 := by
  have hz : w1.heap.size = w.heap.size + 1 := by rw [hu.size]; simp
  have h1 : BxC w1 w.heap.size (Cm.zero 0) := (BxC.newC w (Cm.zero 0)).upd hu (by omega)
  have h2 := BxC.newC w1 (Cm.zero 0)
  have hs := h2.stored (Cm.zero k)
  have hm : Mod b w w1 := ((Mod.refl b w).alloc _).upd hu
  refine ⟨_, rfl, by rw [← hz]; exact run_storeC h2 _, hz, (h1.alloc _).upd hs.2 (by omega), by rw [← hz]; exact hs.1, (hr.alloc _).upd hs.2 (by omega), ?_, ?_⟩
  · exact mod_upd' (hm.alloc _) (by omega) hs.2
  · rw [hs.2.size]; simp [hz]
end Go.Proofs.YtoekggbbkcmknaaGreatDoor
/- Rows in memory of commands. -/
namespace Go.Proofs.YtoekggbbkcmknaaGreatDoor
open Go.RowKit
theorem add_plain' (b o j : Nat) : (⟨b, o, none⟩ : Addr).add j = ⟨b, o + j, none⟩ := by
  unfold Addr.add; split <;> simp_all
theorem flat_at {α : Type} (f : α → List Value) (s : Nat) (hf : ∀ x, (f x).length = s) : ∀ (l : List α) (j i : Nat) (p : α), l[j]? = some p → i < s → (l.flatMap f)[j * s + i]? = (f p)[i]?
  | [], j, i, p, h, _ => by simp at h
  | q :: l, 0, i, p, h, hi => by
    simp at h
    subst h
    rw [List.flatMap_cons, List.getElem?_append_left (by rw [hf]; omega)]
    simp
  | q :: l, j + 1, i, p, h, hi => by
    rw [List.flatMap_cons, List.getElem?_append_right (by rw [hf, Nat.add_mul]; omega)]
    rw [show (j + 1) * s + i - (f q).length = j * s + i by rw [hf, Nat.add_mul]; omega]
    exact flat_at f s hf l j i p (by simpa using h) hi
theorem flat_len {α : Type} (f : α → List Value) (s : Nat) (hf : ∀ x, (f x).length = s) (l : List α) : (l.flatMap f).length = l.length * s := by
  induction l with
  | nil => simp
  | cons p l ih => rw [List.flatMap_cons, List.length_append, ih, hf, List.length_cons, Nat.add_mul]; omega
theorem flat_split {α : Type} (f : α → List Value) (s : Nat) (hs : 0 < s) (hf : ∀ x, (f x).length = s) (l : List α) (j : Nat) (u : Value) (h : (l.flatMap f)[j]? = some u) :
    ∃ i r x, l[i]? = some x ∧ r < s ∧ j = i * s + r ∧ (f x)[r]? = some u := by
  have hj : j < l.length * s := by rw [← flat_len f s hf]; exact (List.getElem?_eq_some_iff.1 h).1
  have hi : j / s < l.length := by rw [Nat.div_lt_iff_lt_mul hs]; exact hj
  have hd : j = j / s * s + j % s := by rw [Nat.mul_comm]; exact (Nat.div_add_mod j s).symm
  have hr : j % s < s := Nat.mod_lt _ hs
  refine ⟨j / s, j % s, l[j / s], List.getElem?_eq_getElem hi, hr, hd, ?_⟩
  have := flat_at f s hf l (j / s) (j % s) _ (List.getElem?_eq_getElem hi) hr
  rw [← hd, h] at this
  exact this.symm
/-- How a thing lies in cells. -/
structure Enc {α : Type} (f : α → List Value) (s : Nat) : Prop where
  pos : 0 < s
  len : ∀ x, (f x).length = s
  one : ∀ x, ∀ u ∈ f x, u.oneCell' = true
theorem Enc.flat_one {α : Type} {f : α → List Value} {s : Nat} (E : Enc f s) (l : List α) : ∀ u ∈ l.flatMap f, u.oneCell' = true := by
  intro u hu
  obtain ⟨x, _, h⟩ := List.mem_flatMap.1 hu
  exact E.one x u h
def CellsAt {α : Type} (f : α → List Value) (s : Nat) (w : World) (b o : Nat) (l : List α) : Prop :=
  ∀ (j : Nat) x, l[j]? = some x → ∀ i u, (f x)[i]? = some u → w.cell? ⟨b, o + j * s + i, none⟩ = some u
theorem CellsAt.below {α : Type} {f : α → List Value} {s : Nat} {w w' : World} {b o : Nat} {l : List α} {B : Nat} (h : CellsAt f s w b o l) (hB : B = w.heap.size) (hb : Below B w w') : CellsAt f s w' b o l := by
  subst hB
  intro j x hj i u hu
  have h0 := h j x hj i u hu
  exact (hb.cell (p := ⟨b, o + j * s + i, none⟩) (World.block_lt_of_cell? _ _ h0)).trans h0
theorem CellsAt.flat {α : Type} {f : α → List Value} {s : Nat} (E : Enc f s) {w : World} {b o : Nat} {l : List α} (h : CellsAt f s w b o l) :
    ∀ j u, (l.flatMap f)[j]? = some u → w.cell? ((⟨b, o, none⟩ : Addr).add j) = some u := by
  intro j u hj
  obtain ⟨i, r, x, hi, _, rfl, hu⟩ := flat_split f s E.pos E.len l j u hj
  rw [add_plain', ← Nat.add_assoc]
  exact h i x hi r u hu
theorem CellsAt.take {α : Type} {f : α → List Value} {s : Nat} {w : World} {b o : Nat} {l : List α} (h : CellsAt f s w b o l) (k : Nat) : CellsAt f s w b o (l.take k) := by
  intro j x hj
  rw [List.getElem?_take] at hj
  split at hj
  · exact h j x hj
  · cases hj
theorem CellsAt.drop {α : Type} {f : α → List Value} {s : Nat} {w : World} {b o : Nat} {l : List α} (h : CellsAt f s w b o l) (k : Nat) : CellsAt f s w b (o + k * s) (l.drop k) := by
  intro j x hj i u hu
  rw [List.getElem?_drop] at hj
  have := h (k + j) x hj i u hu
  rw [Nat.add_mul, ← Nat.add_assoc] at this
  exact this
/-- A slice that shows a row. -/
structure SlG {α : Type} (f : α → List Value) (s : Nat) (w : World) (v : Value) (l : List α) : Prop where
  get : ∃ (a : Option Addr) (b o c : Nat), v = .slice a l.length c ∧ l.length ≤ c ∧ c ≤ maxLen ∧ (a = none → c = 0) ∧ (a = none ∨ a = some ⟨b, o, none⟩) ∧ CellsAt f s w b o l
variable {α : Type} {f : α → List Value} {s : Nat} {w w' : World} {v : Value} {l : List α}
theorem SlG.below (h : SlG f s w v l) (hb : Below w.heap.size w w') : SlG f s w' v l := by
  obtain ⟨a, b, o, c, h1, h2, h3, h4, h5, h6⟩ := h.get
  exact ⟨a, b, o, c, h1, h2, h3, h4, h5, h6.below rfl hb⟩
theorem SlG.nil (w : World) : SlG f s w (.slice none 0 0) [] := ⟨none, 0, 0, 0, rfl, Nat.le_refl _, Nat.zero_le _, fun _ => rfl, .inl rfl, fun j x h => by simp at h⟩
theorem SlG.slice (h : SlG f s w v l) : ∃ a c, v = .slice a l.length c := by
  obtain ⟨a, _, _, c, h1, _⟩ := h.get
  exact ⟨a, c, h1⟩
def RowG (f : α → List Value) (s : Nat) (T : TypeId) (w : World) (B : Nat) (v : Value) (l : List α) : Prop := w.ownsRow B T s v l.length (l.flatMap f)
variable {T : TypeId} {B B' : Nat}
theorem RowG.nil (f : α → List Value) (s : Nat) (T : TypeId) (w : World) (B : Nat) : RowG f s T w B (.slice none 0 0) [] := World.ownsRow_nil _ _ _ _
theorem RowG.sl (E : Enc f s) (h : RowG f s T w B v l) : SlG f s w v l := by
  have hw : w.ownsRow B T s v l.length (l.flatMap f) := h
  rcases hw.2 with ⟨rfl, h0⟩ | ⟨g, cap, cur, rfl, _, _, h2, h3, _⟩
  · obtain rfl : l = [] := List.length_eq_zero_iff.1 h0
    exact SlG.nil w
  · refine ⟨_, g, 0, cap, rfl, h2, h3, (fun h => by cases h), .inr rfl, fun j p hj i u hu => ?_⟩
    have hlt := (List.getElem?_eq_some_iff.1 hj).1
    have hi : i < s := by rw [← E.len p]; exact (List.getElem?_eq_some_iff.1 hu).1
    have hm : j * s + i < l.length * s := by
      have : (j + 1) * s ≤ l.length * s := Nat.mul_le_mul_right s hlt
      rw [Nat.add_mul] at this; omega
    rw [Nat.zero_add]
    exact ((hw.cellAt (j * s + i) hm).trans (flat_at f s E.len l j i p hj hi)).trans hu
theorem RowG.below (h : RowG f s T w B v l) (hb : Below w.heap.size w w') : RowG f s T w' B v l := by
  obtain ⟨h0, h1⟩ := h
  refine ⟨h0, ?_⟩
  rcases h1 with h1 | ⟨g, cap, cur, hv, hB, hg, h2, h3, h4, h5⟩
  · exact .inl h1
  · refine .inr ⟨g, cap, cur, hv, hB, ?_, h2, h3, h4, h5⟩
    have hlt : g < w.heap.size := (Array.getElem?_eq_some_iff.1 hg).1
    rw [hb.block g hlt]; exact hg
theorem RowG.base (h : RowG f s T w B v l) (hb : B' ≤ B) : RowG f s T w B' v l := by
  obtain ⟨h0, h1⟩ := h
  refine ⟨h0, ?_⟩
  rcases h1 with h1 | ⟨g, cap, cur, hv, hB, hg, h2, h3, h4, h5⟩
  · exact .inl h1
  · exact .inr ⟨g, cap, cur, hv, Nat.le_trans hb hB, hg, h2, h3, h4, h5⟩
theorem RowG.alloc (h : RowG f s T w B v l) (o : Obj) : RowG f s T (w.alloc o) B v l := World.ownsRow.alloc h o
theorem RowG.lt (h : RowG f s T w B v l) : ∀ k, v.ownBlock = some k → B ≤ k ∧ k < w.heap.size := fun k hk => World.ownsRow.lt h k hk
/-- It stays where its block stays. -/
theorem RowG.keep (h : RowG f s T w B v l) (hk : ∀ g, v.ownBlock = some g → w'.heap[g]? = w.heap[g]?) : RowG f s T w' B v l := by
  obtain ⟨h0, h1⟩ := h
  refine ⟨h0, ?_⟩
  rcases h1 with h1 | ⟨g, cap, cur, hv, hB, hg, h2, h3, h4, h5⟩
  · exact .inl h1
  · refine .inr ⟨g, cap, cur, hv, hB, ?_, h2, h3, h4, h5⟩
    rw [hk g (by rw [hv]; rfl)]; exact hg
theorem RowG.slice (h : RowG f s T w B v l) : ∃ a c, v = .slice a l.length c := by
  obtain ⟨_, h1⟩ := h
  rcases h1 with ⟨rfl, h0⟩ | ⟨g, cap, cur, rfl, _⟩
  · exact ⟨none, 0, by rw [h0]⟩
  · exact ⟨_, _, rfl⟩
theorem RowG.slice' (h : RowG f s T w B v l) : ∃ a n c, v = .slice a n c := by obtain ⟨a, c, h⟩ := h.slice; exact ⟨a, _, c, h⟩
/-- What is told of a type ahead of an append. -/
structure App (TS T : TypeId) (s by_ : Nat) : Prop where
  und : Tryz.prog.underlying TS = some (.slice T)
  inf : ∃ (i : TypeInfo) (z : Value), Tryz.prog.info? T = some i ∧ i.zero = some z ∧ i.size = s ∧ i.bytes = by_ ∧ z.cells.size = s
theorem App.mk' {TS T : TypeId} {s by_ : Nat} (h0 : Tryz.prog.underlying TS = some (.slice T)) (h : (Tryz.prog.info? T).map (fun i => (i.zero.map (fun z => z.cells.size), i.size, i.bytes)) = some (some s, s, by_)) : App TS T s by_ := by
  cases hi : Tryz.prog.info? T with
  | none => rw [hi] at h; cases h
  | some i0 =>
    rw [hi] at h
    simp only [Option.map_some, Option.some.injEq, Prod.mk.injEq] at h
    obtain ⟨h1, h2, h3⟩ := h
    cases hz : i0.zero with
    | none => rw [hz] at h1; cases h1
    | some z =>
      rw [hz] at h1
      simp only [Option.map_some, Option.some.injEq] at h1
      exact ⟨h0, i0, z, hi, hz, h2, h3, h1⟩
/-- append of a row that a slice shows. -/
theorem appS {TS : TypeId} {by_ : Nat} (E : Enc f s) (A : App TS T s by_) (hby : by_ ≤ 300) (u : Value) (m : List α) (ty : TypeId) (hB : B ≤ w.heap.size) (hu : RowG f s T w B u l) (hv : SlG f s w v m) (hl : l.length ≤ 300000) (hm : m.length ≤ 300000) :
    ∃ v' w', (Builtin.append_ #[TS, TS] ty #[u, v]).run Tryz.prog w = .ok v' w' ∧ RowG f s T w' B v' (l ++ m) ∧ w.grownBy w' u.ownBlock ∧ Below B w w' ∧ (v'.ownBlock = u.ownBlock ∨ v'.ownBlock = some w.heap.size) := by
  obtain ⟨i0, z, hi, hz0, hz1, hz2, hzs⟩ := A.inf
  obtain ⟨a, b, o, c, rfl, _, _, ha0, ha, hx⟩ := hv.get
  rcases ha with rfl | rfl
  · obtain rfl : c = 0 := ha0 rfl
    have hm0 : m = [] := by
      have : m.length ≤ 0 := by assumption
      exact List.length_eq_zero_iff.1 (by omega)
    subst hm0
    refine ⟨u, w, run_append_owned_none (P := Tryz.prog) (w := w) B TS ty T i0 s A.und hi u l.length (l.flatMap f) hu, by rw [List.append_nil]; exact hu, ⟨rfl, rfl, rfl, Nat.le_refl _, fun _ _ _ => rfl⟩, Below.refl _ _, .inl rfl⟩
  · obtain ⟨v', w', hr, h2, h3, _, h5⟩ := run_append_own_at (P := Tryz.prog) w B TS ty T i0 z s by_ A.und hi hz0 hz1 hz2 hzs E.pos u l.length (l.flatMap f) hu ⟨b, o, none⟩ m.length c (m.flatMap f) (flat_len _ _ E.len _) (hx.flat E) (E.flat_one _) (by unfold maxLen; omega) (by have : (l.length + m.length) * by_ ≤ 600000 * 300 := Nat.mul_le_mul (by omega) hby; omega) hB
    refine ⟨v', w', hr, ?_, h3, (Below.refl _ w).grown h3 hB (fun k hk => (World.ownsRow.lt hu k hk).1), h5⟩
    show w'.ownsRow _ _ _ _ _ _
    rw [List.flatMap_append, List.length_append]; exact h2
/-- append of one thing, laid in a block of its own. -/
theorem app1 {TS : TypeId} {by_ : Nat} (E : Enc f s) (A : App TS T s by_) (hby : by_ ≤ 300) (u : Value) (x : α) (ty : TypeId) (W : World) (hB : B ≤ W.heap.size) (hu : RowG f s T W B u l) (hl : l.length ≤ 300000) (cs : Array Value) (hcs : cs = (f x).toArray) (g : Nat) (hg : W.heap.size = g) :
    ∃ v' w', (Builtin.append_ #[TS, TS] ty #[u, .slice (some ⟨g, 0, none⟩) 1 1]).run Tryz.prog (W.alloc (.cells cs T)) = .ok v' w' ∧ RowG f s T w' B v' (l ++ [x]) ∧ (W.alloc (.cells cs T)).grownBy w' u.ownBlock ∧ Below B W w' ∧ (v'.ownBlock = u.ownBlock ∨ v'.ownBlock = some (g + 1)) := by
  subst hcs
  have hsl : SlG f s (W.alloc (.cells (f x).toArray T)) (.slice (some ⟨g, 0, none⟩) 1 1) [x] := by
    refine ⟨_, g, 0, 1, rfl, Nat.le_refl _, by unfold maxLen; omega, (fun h => by cases h), .inr rfl, ?_⟩
    intro j y hj i u' hu'
    cases j with
    | succ j => simp at hj
    | zero =>
      simp at hj
      subst hj hg
      rw [Nat.zero_mul, Nat.zero_add, World.cell?_alloc_new]
      simpa using hu'
  obtain ⟨v', w', h1, h2, h3, h4, h5⟩ := appS E A hby u [x] ty (by simp; omega) (hu.alloc (.cells (f x).toArray T)) hsl hl (by simp)
  refine ⟨v', w', h1, h2, h3, ((Below.refl B W).alloc hB _).trans h4, ?_⟩
  rw [World.size_alloc, hg] at h5
  exact h5
/-- A part of what a slice shows. -/
theorem SlG.cut {a : Option Addr} {n c : Nat} (h : SlG f s w (.slice a n c) l) (k : Nat) (hk : k ≤ n) : SlG f s w (.slice a k c) (l.take k) := by
  obtain ⟨a', b, o, c', h1, h2, h3, h4, h5, h6⟩ := h.get
  cases h1
  have hl : (l.take k).length = k := by rw [List.length_take]; omega
  exact ⟨a, b, o, c, by rw [hl], by omega, h3, h4, h5, h6.take k⟩
theorem SlG.tail {b o n c : Nat} (h : SlG f s w (.slice (some ⟨b, o, none⟩) n c) l) (k : Nat) (hk : k ≤ n) : SlG f s w (.slice (some ⟨b, o + k * s, none⟩) (n - k) (c - k)) (l.drop k) ∧ (c = k → SlG f s w (.slice (some ⟨b, o, none⟩) (n - k) (c - k)) (l.drop k)) := by
  obtain ⟨a', b', o', c', h1, h2, h3, h4, h5, h6⟩ := h.get
  cases h1
  have hl : (l.drop k).length = l.length - k := List.length_drop
  rcases h5 with h5 | h5
  · cases h5
  · cases h5
    refine ⟨⟨_, b, o + k * s, c - k, by rw [hl], by omega, by omega, (fun h => by cases h), .inr rfl, h6.drop k⟩, fun hc => ?_⟩
    have he : l.drop k = [] := List.drop_eq_nil_of_le (by omega)
    rw [he]
    exact ⟨_, b, o, c - k, by simp; omega, by simp, by omega, (fun h => by cases h), .inr rfl, fun j x h => by simp at h⟩
theorem encV : Enc Cm.vals 18 := ⟨by decide, fun _ => rfl, fun x u hu => vals_one x u hu⟩
theorem appC : App 22 32 18 208 := .mk' Tryz.underlying22 (by kernel_rfl)
theorem appR : App 49 40 18 208 := .mk' Tryz.underlying49 (by kernel_rfl)
theorem RowG.mod {b : Nat} (h : RowG f s T w B v l) (hm : Mod b w w') (hb : b < B) : RowG f s T w' B v l := own_mod h hm hb
theorem take_snocL {α : Type} {l : List α} {k : Nat} {y : α} (h : l[k]? = some y) : l.take (k + 1) = l.take k ++ [y] := by rw [List.take_add_one, h]; rfl
end Go.Proofs.YtoekggbbkcmknaaGreatDoor
/- A row of one command, laid. -/
namespace Go.Proofs.YtoekggbbkcmknaaGreatDoor
open Go.RowKit
def bslC (ps : Array (Nat × Value)) : Sem Value := Instr.buildSlice 22 1 ps
theorem bslC_eq (ps : Array (Nat × Value)) : Instr.buildSlice 22 1 ps = bslC ps := rfl
theorem run_bslC (c : Cm) (w : World) : (bslC #[(0, c.agg)]).run Tryz.prog w = .ok (.slice (some ⟨w.heap.size, 0, none⟩) 1 1) (w.alloc (objC c)) := by
  unfold bslC objC Cm.agg Cm.vals
  simp [go_sem]
def bslR (ps : Array (Nat × Value)) : Sem Value := Instr.buildSlice 49 1 ps
theorem bslR_eq (ps : Array (Nat × Value)) : Instr.buildSlice 49 1 ps = bslR ps := rfl
theorem run_bslR (c : Cm) (w : World) : (bslR #[(0, c.agg)]).run Tryz.prog w = .ok (.slice (some ⟨w.heap.size, 0, none⟩) 1 1) (w.alloc (objR c)) := by
  unfold bslR objR Cm.agg Cm.vals
  simp [go_sem]
end Go.Proofs.YtoekggbbkcmknaaGreatDoor
