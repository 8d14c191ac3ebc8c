/- The contracts of what makes a versioned codec. -/
import Derived.Test.YtfoijhofpjaldaaRecF
set_option maxRecDepth 100000
set_option maxHeartbeats 4000000
set_option linter.unusedVariables false
namespace Go.Proofs.Ytfoijhofpjaldaa
open Go.RowKit
theorem three0 (w : World) (o1 o2 : Obj) (x : Value) (T : TypeId) : (((w.alloc (.cells #[x] T)).alloc o1).alloc o2).cell? ⟨w.heap.size, 0, none⟩ = some x := cell_alloc (cell_alloc (by simp))
theorem three1 (w : World) (o1 o2 : Obj) (x : Value) (T : TypeId) : (((w.alloc o1).alloc (.cells #[x] T)).alloc o2).cell? ⟨w.heap.size + 1, 0, none⟩ = some x := cell_alloc (cell2 w o1 x T)
theorem far {w : World} {p : Addr} {x : Value} {g j : Nat} {v : Value} (h : w.cell? p = some x) (hne : g ≠ p.block) : (w.setCell ⟨g, j, none⟩ v).cell? p = some x := (World.cell?_setCell_far w ⟨g, j, none⟩ p v hne).trans h
theorem stored2 {w : World} {g : Nat} {x0 x1 v0 v1 : Value} (k0 : w.cell? ⟨g, 0, none⟩ = some x0) (k1 : w.cell? ⟨g, 1, none⟩ = some x1) :
    ((w.setCell ⟨g, 0, none⟩ v0).setCell ⟨g, 1, none⟩ v1).cell? ⟨g, 0, none⟩ = some v0 ∧ ((w.setCell ⟨g, 0, none⟩ v0).setCell ⟨g, 1, none⟩ v1).cell? ⟨g, 1, none⟩ = some v1 := by
  have ne01 : (⟨g, 1, none⟩ : Addr) ≠ ⟨g, 0, none⟩ := fun h => by cases h
  have a0 : (w.setCell ⟨g, 0, none⟩ v0).cell? ⟨g, 0, none⟩ = some v0 := World.cell?_setCell_same' _ _ _ (by rw [k0]; rfl)
  have a1 : (w.setCell ⟨g, 0, none⟩ v0).cell? ⟨g, 1, none⟩ = some x1 := by rw [World.cell?_setCell_other _ _ _ _ (fun h => ne01 h.symm), k1]
  refine ⟨?_, World.cell?_setCell_same' _ _ _ (by rw [a1]; rfl)⟩
  rw [World.cell?_setCell_other _ _ _ _ ne01, a0]
theorem stored2_below {w : World} {g B : Nat} {v0 v1 : Value} (hB : B ≤ g) : Below B w ((w.setCell ⟨g, 0, none⟩ v0).setCell ⟨g, 1, none⟩ v1) :=
  ((Below.refl B w).setCell (p := ⟨g, 0, none⟩) hB _).setCell (p := ⟨g, 1, none⟩) hB _
/-- A box of two cells that may be written. -/
structure Bx2 (w : World) (g : Nat) (x0 x1 : Value) : Prop where
  c0 : w.cell? ⟨g, 0, none⟩ = some x0
  c1 : w.cell? ⟨g, 1, none⟩ = some x1
  f0 : w.frozen? ⟨g, 0, none⟩ = false
  f1 : w.frozen? ⟨g, 1, none⟩ = false
theorem Bx2.below {w w' : World} {g : Nat} {x0 x1 : Value} (h : Bx2 w g x0 x1) (hb : Below w.heap.size w w') : Bx2 w' g x0 x1 := by
  have hl := World.block_lt_of_cell? _ _ h.c0
  exact ⟨(hb.cell (p := ⟨g, 0, none⟩) hl).trans h.c0, (hb.cell (p := ⟨g, 1, none⟩) hl).trans h.c1, (hb.frozen (p := ⟨g, 0, none⟩) hl).trans h.f0, (hb.frozen (p := ⟨g, 1, none⟩) hl).trans h.f1⟩
theorem Bx2.new (w : World) (x0 x1 : Value) (T : TypeId) : Bx2 (w.alloc (.cells #[x0, x1] T)) w.heap.size x0 x1 := by constructor <;> simp
theorem Bx2.new1 (w : World) (o : Obj) (x0 x1 : Value) (T : TypeId) : Bx2 ((w.alloc o).alloc (.cells #[x0, x1] T)) (w.heap.size + 1) x0 x1 := by
  have := Bx2.new (w.alloc o) x0 x1 T
  rwa [size1] at this
theorem Bx2.new2 (w : World) (o1 o2 : Obj) (x0 x1 : Value) (T : TypeId) : Bx2 (((w.alloc o1).alloc o2).alloc (.cells #[x0, x1] T)) (w.heap.size + 1 + 1) x0 x1 := by
  have := Bx2.new ((w.alloc o1).alloc o2) x0 x1 T
  rwa [size2] at this
def PostV (w : World) (P : World → Value → Prop) (e : Ending) (w' : World) : Prop := ∃ v, e = .returned v ∧ P w' v ∧ Below w.heap.size w w'
/-- A codec's functions, and what they hold. -/
def VerQ (w : World) (v pf gf : Value) (lo : Nat) : Prop := ∃ a g : Nat, v = .agg #[.func (.func 73) #[] #[.pointer (some ⟨a, 0, none⟩)], .func (.func 74) #[] #[.pointer (some ⟨g, 0, none⟩)]] ∧ w.cell? ⟨a, 0, none⟩ = some pf ∧ w.cell? ⟨g, 0, none⟩ = some gf ∧ lo ≤ a ∧ lo ≤ g
theorem VerQ.below {w w' : World} {v pf gf : Value} {lo : Nat} (h : VerQ w v pf gf lo) (hb : Below w.heap.size w w') : VerQ w' v pf gf lo := by
  obtain ⟨a, g, hv, ha, hg, hl⟩ := h
  exact ⟨a, g, hv, (hb.cell (World.block_lt_of_cell? _ _ ha)).trans ha, (hb.cell (World.block_lt_of_cell? _ _ hg)).trans hg, hl⟩
theorem verQ_any (p g : Fn) (pc gc : Array Value) (w : World) :
    Calls Try.prog 38 #[.func p #[] pc, .func g #[] gc] w (PostV w fun w' v => VerQ w' v (.func p #[] pc) (.func g #[] gc) w.heap.size) := by
  have hmf : ∀ (fn : Fn) (first cap : Array Value) (w : World), (Instr.makeFunc fn first cap).run Try.prog w = .ok (.func fn first cap) w := fun _ _ _ _ => rfl
  have HQ : Hid (∀ v w', (v = .agg #[.func (.func 73) #[] #[.pointer (some ⟨w.heap.size, 0, none⟩)], .func (.func 74) #[] #[.pointer (some ⟨w.heap.size + 1, 0, none⟩)]] ∧ w'.cell? ⟨w.heap.size, 0, none⟩ = some (.func p #[] pc) ∧ w'.cell? ⟨w.heap.size + 1, 0, none⟩ = some (.func g #[] gc) ∧ Below w.heap.size w w') → PostV w (fun w' v => VerQ w' v (.func p #[] pc) (.func g #[] gc) w.heap.size) (Ending.returned v) w') := by
    rintro v w' ⟨h1, h2, h3, h4⟩
    exact ⟨v, rfl, ⟨_, _, h1, h2, h3, Nat.le_refl _, Nat.le_succ _⟩, h4⟩
  go_enter Try.func38, Try.ntmps38
  go_wp2
  refine bodyPost_ret_by (v := .agg #[.func (.func 73) #[] #[.pointer (some ⟨w.heap.size, 0, none⟩)], .func (.func 74) #[] #[.pointer (some ⟨w.heap.size + 1, 0, none⟩)]]) ?_ rfl (HQ.out _ _ ⟨rfl, three0 w _ _ _ _, three1 w _ _ _ _, below3 w _ _ _⟩)
  simp [results, Try.results38, go_sem]
/-- A codec's functions, and what they hold. -/
def VerM (w : World) (v pf gf : Value) (lo : Nat) : Prop := ∃ a g : Nat, v = .agg #[.func (.func 75) #[] #[.pointer (some ⟨a, 0, none⟩)], .func (.func 76) #[] #[.pointer (some ⟨g, 0, none⟩)]] ∧ w.cell? ⟨a, 0, none⟩ = some pf ∧ w.cell? ⟨g, 0, none⟩ = some gf ∧ lo ≤ a ∧ lo ≤ g
theorem VerM.below {w w' : World} {v pf gf : Value} {lo : Nat} (h : VerM w v pf gf lo) (hb : Below w.heap.size w w') : VerM w' v pf gf lo := by
  obtain ⟨a, g, hv, ha, hg, hl⟩ := h
  exact ⟨a, g, hv, (hb.cell (World.block_lt_of_cell? _ _ ha)).trans ha, (hb.cell (World.block_lt_of_cell? _ _ hg)).trans hg, hl⟩
theorem verM_any (p g : Fn) (pc gc : Array Value) (w : World) :
    Calls Try.prog 43 #[.func p #[] pc, .func g #[] gc] w (PostV w fun w' v => VerM w' v (.func p #[] pc) (.func g #[] gc) w.heap.size) := by
  have hmf : ∀ (fn : Fn) (first cap : Array Value) (w : World), (Instr.makeFunc fn first cap).run Try.prog w = .ok (.func fn first cap) w := fun _ _ _ _ => rfl
  have HQ : Hid (∀ v w', (v = .agg #[.func (.func 75) #[] #[.pointer (some ⟨w.heap.size, 0, none⟩)], .func (.func 76) #[] #[.pointer (some ⟨w.heap.size + 1, 0, none⟩)]] ∧ w'.cell? ⟨w.heap.size, 0, none⟩ = some (.func p #[] pc) ∧ w'.cell? ⟨w.heap.size + 1, 0, none⟩ = some (.func g #[] gc) ∧ Below w.heap.size w w') → PostV w (fun w' v => VerM w' v (.func p #[] pc) (.func g #[] gc) w.heap.size) (Ending.returned v) w') := by
    rintro v w' ⟨h1, h2, h3, h4⟩
    exact ⟨v, rfl, ⟨_, _, h1, h2, h3, Nat.le_refl _, Nat.le_succ _⟩, h4⟩
  go_enter Try.func43, Try.ntmps43
  go_wp2
  refine bodyPost_ret_by (v := .agg #[.func (.func 75) #[] #[.pointer (some ⟨w.heap.size, 0, none⟩)], .func (.func 76) #[] #[.pointer (some ⟨w.heap.size + 1, 0, none⟩)]]) ?_ rfl (HQ.out _ _ ⟨rfl, three0 w _ _ _ _, three1 w _ _ _ _, below3 w _ _ _⟩)
  simp [results, Try.results43, go_sem]
/-- A codec's functions, and what they hold. -/
def VerU (w : World) (v pf gf : Value) (lo : Nat) : Prop := ∃ a g : Nat, v = .agg #[.func (.func 77) #[] #[.pointer (some ⟨a, 0, none⟩)], .func (.func 78) #[] #[.pointer (some ⟨g, 0, none⟩)]] ∧ w.cell? ⟨a, 0, none⟩ = some pf ∧ w.cell? ⟨g, 0, none⟩ = some gf ∧ lo ≤ a ∧ lo ≤ g
theorem VerU.below {w w' : World} {v pf gf : Value} {lo : Nat} (h : VerU w v pf gf lo) (hb : Below w.heap.size w w') : VerU w' v pf gf lo := by
  obtain ⟨a, g, hv, ha, hg, hl⟩ := h
  exact ⟨a, g, hv, (hb.cell (World.block_lt_of_cell? _ _ ha)).trans ha, (hb.cell (World.block_lt_of_cell? _ _ hg)).trans hg, hl⟩
theorem verU_any (p g : Fn) (pc gc : Array Value) (w : World) :
    Calls Try.prog 45 #[.func p #[] pc, .func g #[] gc] w (PostV w fun w' v => VerU w' v (.func p #[] pc) (.func g #[] gc) w.heap.size) := by
  have hmf : ∀ (fn : Fn) (first cap : Array Value) (w : World), (Instr.makeFunc fn first cap).run Try.prog w = .ok (.func fn first cap) w := fun _ _ _ _ => rfl
  have HQ : Hid (∀ v w', (v = .agg #[.func (.func 77) #[] #[.pointer (some ⟨w.heap.size, 0, none⟩)], .func (.func 78) #[] #[.pointer (some ⟨w.heap.size + 1, 0, none⟩)]] ∧ w'.cell? ⟨w.heap.size, 0, none⟩ = some (.func p #[] pc) ∧ w'.cell? ⟨w.heap.size + 1, 0, none⟩ = some (.func g #[] gc) ∧ Below w.heap.size w w') → PostV w (fun w' v => VerU w' v (.func p #[] pc) (.func g #[] gc) w.heap.size) (Ending.returned v) w') := by
    rintro v w' ⟨h1, h2, h3, h4⟩
    exact ⟨v, rfl, ⟨_, _, h1, h2, h3, Nat.le_refl _, Nat.le_succ _⟩, h4⟩
  go_enter Try.func45, Try.ntmps45
  go_wp2
  refine bodyPost_ret_by (v := .agg #[.func (.func 77) #[] #[.pointer (some ⟨w.heap.size, 0, none⟩)], .func (.func 78) #[] #[.pointer (some ⟨w.heap.size + 1, 0, none⟩)]]) ?_ rfl (HQ.out _ _ ⟨rfl, three0 w _ _ _ _, three1 w _ _ _ _, below3 w _ _ _⟩)
  simp [results, Try.results45, go_sem]
/-- A codec's functions, and what they hold. -/
def VerW (w : World) (v pf gf : Value) (lo : Nat) : Prop := ∃ a g : Nat, v = .agg #[.func (.func 62) #[] #[.pointer (some ⟨a, 0, none⟩)], .func (.func 64) #[] #[.pointer (some ⟨g, 0, none⟩)]] ∧ w.cell? ⟨a, 0, none⟩ = some pf ∧ w.cell? ⟨g, 0, none⟩ = some gf ∧ lo ≤ a ∧ lo ≤ g
theorem VerW.below {w w' : World} {v pf gf : Value} {lo : Nat} (h : VerW w v pf gf lo) (hb : Below w.heap.size w w') : VerW w' v pf gf lo := by
  obtain ⟨a, g, hv, ha, hg, hl⟩ := h
  exact ⟨a, g, hv, (hb.cell (World.block_lt_of_cell? _ _ ha)).trans ha, (hb.cell (World.block_lt_of_cell? _ _ hg)).trans hg, hl⟩
theorem verW_any (p g : Fn) (pc gc : Array Value) (w : World) :
    Calls Try.prog 23 #[.func p #[] pc, .func g #[] gc] w (PostV w fun w' v => VerW w' v (.func p #[] pc) (.func g #[] gc) w.heap.size) := by
  have hmf : ∀ (fn : Fn) (first cap : Array Value) (w : World), (Instr.makeFunc fn first cap).run Try.prog w = .ok (.func fn first cap) w := fun _ _ _ _ => rfl
  have HQ : Hid (∀ v w', (v = .agg #[.func (.func 62) #[] #[.pointer (some ⟨w.heap.size, 0, none⟩)], .func (.func 64) #[] #[.pointer (some ⟨w.heap.size + 1, 0, none⟩)]] ∧ w'.cell? ⟨w.heap.size, 0, none⟩ = some (.func p #[] pc) ∧ w'.cell? ⟨w.heap.size + 1, 0, none⟩ = some (.func g #[] gc) ∧ Below w.heap.size w w') → PostV w (fun w' v => VerW w' v (.func p #[] pc) (.func g #[] gc) w.heap.size) (Ending.returned v) w') := by
    rintro v w' ⟨h1, h2, h3, h4⟩
    exact ⟨v, rfl, ⟨_, _, h1, h2, h3, Nat.le_refl _, Nat.le_succ _⟩, h4⟩
  go_enter Try.func23, Try.ntmps23
  go_wp2
  refine bodyPost_ret_by (v := .agg #[.func (.func 62) #[] #[.pointer (some ⟨w.heap.size, 0, none⟩)], .func (.func 64) #[] #[.pointer (some ⟨w.heap.size + 1, 0, none⟩)]]) ?_ rfl (HQ.out _ _ ⟨rfl, three0 w _ _ _ _, three1 w _ _ _ _, below3 w _ _ _⟩)
  simp [results, Try.results23, go_sem]
/-- A queue's codec of a name. -/
def CdQ (w : World) (v : Value) (nm : ByteArray) : Prop := ∃ a g n : Nat, v = .agg #[.func (.func 73) #[] #[.pointer (some ⟨a, 0, none⟩)], .func (.func 74) #[] #[.pointer (some ⟨g, 0, none⟩)]] ∧ w.cell? ⟨a, 0, none⟩ = some (.func (.func 30) #[] #[]) ∧ w.cell? ⟨g, 0, none⟩ = some (.func (.func 34) #[] #[.pointer (some ⟨n, 0, none⟩)]) ∧ w.cell? ⟨n, 0, none⟩ = some (.string nm)
def CdM (w : World) (v : Value) (nm : ByteArray) (i : Nat) : Prop := ∃ a g n c : Nat, v = .agg #[.func (.func 75) #[] #[.pointer (some ⟨a, 0, none⟩)], .func (.func 76) #[] #[.pointer (some ⟨g, 0, none⟩)]] ∧ w.cell? ⟨a, 0, none⟩ = some (.func (.func 41) #[] #[]) ∧ w.cell? ⟨g, 0, none⟩ = some (.func (.func 42) #[] #[.pointer (some ⟨n, 0, none⟩), .pointer (some ⟨c, 0, none⟩)]) ∧ w.cell? ⟨n, 0, none⟩ = some (.string nm) ∧ w.cell? ⟨c, 0, none⟩ = some (.int .u64 i)
theorem CdQ.below {w w' : World} {v : Value} {nm : ByteArray} (h : CdQ w v nm) (hb : Below w.heap.size w w') : CdQ w' v nm := by
  obtain ⟨a, g, n, hv, ha, hg, hn⟩ := h
  exact ⟨a, g, n, hv, (hb.cell (World.block_lt_of_cell? _ _ ha)).trans ha, (hb.cell (World.block_lt_of_cell? _ _ hg)).trans hg, (hb.cell (World.block_lt_of_cell? _ _ hn)).trans hn⟩
theorem CdM.below {w w' : World} {v : Value} {nm : ByteArray} {i : Nat} (h : CdM w v nm i) (hb : Below w.heap.size w w') : CdM w' v nm i := by
  obtain ⟨a, g, n, c, hv, ha, hg, hn, hc⟩ := h
  exact ⟨a, g, n, c, hv, (hb.cell (World.block_lt_of_cell? _ _ ha)).trans ha, (hb.cell (World.block_lt_of_cell? _ _ hg)).trans hg, (hb.cell (World.block_lt_of_cell? _ _ hn)).trans hn, (hb.cell (World.block_lt_of_cell? _ _ hc)).trans hc⟩
theorem CdQ.of {w : World} {v : Value} {nm : ByteArray} {n lo : Nat} (h : VerQ w v (.func (.func 30) #[] #[]) (.func (.func 34) #[] #[.pointer (some ⟨n, 0, none⟩)]) lo) (hn : w.cell? ⟨n, 0, none⟩ = some (.string nm)) : CdQ w v nm := by
  obtain ⟨a, g, hv, ha, hg, _⟩ := h
  exact ⟨a, g, n, hv, ha, hg, hn⟩
theorem CdM.of {w : World} {v : Value} {nm : ByteArray} {i n c lo : Nat} (h : VerM w v (.func (.func 41) #[] #[]) (.func (.func 42) #[] #[.pointer (some ⟨n, 0, none⟩), .pointer (some ⟨c, 0, none⟩)]) lo) (hn : w.cell? ⟨n, 0, none⟩ = some (.string nm)) (hc : w.cell? ⟨c, 0, none⟩ = some (.int .u64 i)) : CdM w v nm i := by
  obtain ⟨a, g, hv, ha, hg, _⟩ := h
  exact ⟨a, g, n, c, hv, ha, hg, hn, hc⟩
theorem CdQ.bytes {W : World} {v : Value} {nm : ByteArray} (h : CdQ W v nm) (q : Qu) (hq : q.ok) :
    Calls Try.prog 8 #[v, aggQ q] W fun e w' => e = .returned (.string (str (1 :: encQ q))) ∧ Below W.heap.size W w' := by
  obtain ⟨a, g, n, rfl, ha, hg, hn⟩ := h
  exact bytesQ_any q hq a _ W ha
theorem CdM.bytes {W : World} {v : Value} {nm : ByteArray} {i : Nat} (h : CdM W v nm i) (m : Ms) (hm : m.ok) :
    Calls Try.prog 11 #[v, aggM m] W fun e w' => e = .returned (.string (str (1 :: encM m))) ∧ Below W.heap.size W w' := by
  obtain ⟨a, g, n, c, rfl, ha, hg, hn, hc⟩ := h
  exact bytesM_any m hm a _ W ha
theorem CdQ.read {W : World} {v : Value} {nm : ByteArray} (h : CdQ W v nm) (s : ByteArray) :
    Calls Try.prog 17 #[v, .string s] W fun x w' => x = .returned (.tuple #[aggQ (readG zQ (getQ nm) s).1, .int .i64 (readG zQ (getQ nm) s).2]) ∧ Below W.heap.size W w' := by
  obtain ⟨a, g, n, rfl, ha, hg, hn⟩ := h
  have h1 := World.block_lt_of_cell? _ _ hg
  have h2 := World.block_lt_of_cell? _ _ hn
  simp only at h1 h2
  exact readQ_any _ g n nm s W (fun b hb => ⟨⟨hg, by omega⟩, ⟨hn, by omega⟩⟩)
theorem CdM.read {W : World} {v : Value} {nm : ByteArray} {i : Nat} (h : CdM W v nm i) (s : ByteArray) :
    Calls Try.prog 19 #[v, .string s] W fun x w' => x = .returned (.tuple #[aggM (readG zM (getM nm i) s).1, .int .i64 (readG zM (getM nm i) s).2]) ∧ Below W.heap.size W w' := by
  obtain ⟨a, g, n, c, rfl, ha, hg, hn, hc⟩ := h
  have h1 := World.block_lt_of_cell? _ _ hg
  have h2 := World.block_lt_of_cell? _ _ hn
  have h3 := World.block_lt_of_cell? _ _ hc
  simp only at h1 h2 h3
  exact readM_any _ g n c nm i s W (fun b hb => ⟨⟨hg, by omega⟩, ⟨hn, by omega⟩, ⟨hc, by omega⟩⟩)
theorem VerU.bytes {W : World} {v : Value} {lo : Nat} (h : VerU W v (.func (.func 32) #[] #[]) (.func (.func 36) #[] #[]) lo) (n : Nat) (hn : n < 18446744073709551616) :
    Calls Try.prog 14 #[v, .int .u64 n] W fun e w' => e = .returned (.string (str (1 :: Oc.big 8 n))) ∧ Below W.heap.size W w' := by
  obtain ⟨a, g, rfl, ha, hg, _⟩ := h
  exact bytesU_any n hn a _ W ha
theorem VerU.read {W : World} {v : Value} {lo : Nat} (h : VerU W v (.func (.func 32) #[] #[]) (.func (.func 36) #[] #[]) lo) (s : ByteArray) :
    Calls Try.prog 21 #[v, .string s] W fun x w' => x = .returned (.tuple #[.int .u64 ((readG 0 getU s).1 : Nat), .int .i64 (readG 0 getU s).2]) ∧ Below W.heap.size W w' := by
  obtain ⟨a, g, rfl, ha, hg, _⟩ := h
  exact readU_any _ g s W hg
theorem rqQ {w : World} {g : Nat} {x0 x1 : Value} {tmps : Array Value} (ht : tmps[2]? = some (.pointer (some ⟨g, 0, none⟩))) (h0 : w.cell? ⟨g, 0, none⟩ = some x0) (h1 : w.cell? ⟨g, 1, none⟩ = some x1) :
    (results Try.f7 tmps).run Try.prog w = .ok (.agg #[x0, x1]) w := by
  simp [results, Try.results7, go_sem, ht, h0, h1]
theorem rqM {w : World} {g : Nat} {x0 x1 : Value} {tmps : Array Value} (ht : tmps[4]? = some (.pointer (some ⟨g, 0, none⟩))) (h0 : w.cell? ⟨g, 0, none⟩ = some x0) (h1 : w.cell? ⟨g, 1, none⟩ = some x1) :
    (results Try.f10 tmps).run Try.prog w = .ok (.agg #[x0, x1]) w := by
  simp [results, Try.results10, go_sem, ht, h0, h1]
theorem rqU {w : World} {g : Nat} {x0 x1 : Value} {tmps : Array Value} (ht : tmps[0]? = some (.pointer (some ⟨g, 0, none⟩))) (h0 : w.cell? ⟨g, 0, none⟩ = some x0) (h1 : w.cell? ⟨g, 1, none⟩ = some x1) :
    (results Try.f13 tmps).run Try.prog w = .ok (.agg #[x0, x1]) w := by
  simp [results, Try.results13, go_sem, ht, h0, h1]
theorem queues_any (nm : ByteArray) (w : World) :
    Calls Try.prog 7 #[.string nm] w (PostV w fun w' v => CdQ w' v nm) := by
  have hmf : ∀ (fn : Fn) (first cap : Array Value) (w : World), (Instr.makeFunc fn first cap).run Try.prog w = .ok (.func fn first cap) w := fun _ _ _ _ => rfl
  have HV := Lib.hid (fun W p g pc gc => verQ_any p g pc gc W)
  have HC := Lib.hid (cell_alloc (o := .cells #[.nilFunc, .nilFunc] 32) (show (w.alloc (.cells #[.string nm] 9)).cell? ⟨w.heap.size, 0, none⟩ = some (.string nm) by simp))
  have HB := Lib.hid (Bx2.new1 w (.cells #[.string nm] 9) .nilFunc .nilFunc 32)
  have HW := Lib.hid (below2 w (.cells #[.string nm] 9) (.cells #[.nilFunc, .nilFunc] 32))
  have HZ := Lib.hid (size2 w (.cells #[.string nm] 9) (.cells #[.nilFunc, .nilFunc] 32))
  go_enter Try.func7, Try.ntmps7
  go_wp2_with (go_at_call 38; refine (HV.out _ _ _ _ _).mono ?_; rintro e w1 ⟨v, rfl, ⟨a, g, rfl, ha, hg, la, lg⟩, hb⟩; have HA := Lib.hid ha; have HG := Lib.hid hg; have HLA := Lib.hid la; have HLG := Lib.hid lg; clear ha hg la lg; obtain ⟨k0, k1, f0, f1⟩ := HB.out.below hb)
  obtain ⟨s0, s1⟩ := stored2 (v0 := .func (.func 73) #[] #[.pointer (some ⟨a, 0, none⟩)]) (v1 := .func (.func 74) #[] #[.pointer (some ⟨g, 0, none⟩)]) k0 k1
  have hla := HLA.out
  have hlg := HLG.out
  rw [HZ.out] at hla hlg
  have hn := (hb.cell (World.block_lt_of_cell? _ _ HC.out)).trans HC.out
  refine bodyPost_ret_by (rqQ rfl s0 s1) rfl ⟨_, rfl, ⟨a, g, w.heap.size, rfl, ?_, ?_, ?_⟩, (below_step' HW.out hb).trans (stored2_below (by omega))⟩
  · exact far (far HA.out (by simp only; omega)) (by simp only; omega)
  · exact far (far HG.out (by simp only; omega)) (by simp only; omega)
  · exact far (far hn (by simp only; omega)) (by simp only; omega)
theorem messages_any (nm : ByteArray) (i : Nat) (w : World) :
    Calls Try.prog 10 #[.string nm, .int .u64 i] w (PostV w fun w' v => CdM w' v nm i) := by
  have hmf : ∀ (fn : Fn) (first cap : Array Value) (w : World), (Instr.makeFunc fn first cap).run Try.prog w = .ok (.func fn first cap) w := fun _ _ _ _ => rfl
  have HV := Lib.hid (fun W p g pc gc => verM_any p g pc gc W)
  have HC := Lib.hid (three0 w (.cells #[.int .u64 i] 23) (.cells #[.nilFunc, .nilFunc] 37) (.string nm) 9)
  have HD := Lib.hid (three1 w (.cells #[.string nm] 9) (.cells #[.nilFunc, .nilFunc] 37) (.int .u64 i) 23)
  have HB := Lib.hid (Bx2.new2 w (.cells #[.string nm] 9) (.cells #[.int .u64 i] 23) .nilFunc .nilFunc 37)
  have HW := Lib.hid (below3 w (.cells #[.string nm] 9) (.cells #[.int .u64 i] 23) (.cells #[.nilFunc, .nilFunc] 37))
  have HZ := Lib.hid (size3 w (.cells #[.string nm] 9) (.cells #[.int .u64 i] 23) (.cells #[.nilFunc, .nilFunc] 37))
  go_enter Try.func10, Try.ntmps10
  go_wp2_with (go_at_call 43; refine (HV.out _ _ _ _ _).mono ?_; rintro e w1 ⟨v, rfl, ⟨a, g, rfl, ha, hg, la, lg⟩, hb⟩; have HA := Lib.hid ha; have HG := Lib.hid hg; have HLA := Lib.hid la; have HLG := Lib.hid lg; clear ha hg la lg; obtain ⟨k0, k1, f0, f1⟩ := HB.out.below hb)
  obtain ⟨s0, s1⟩ := stored2 (v0 := .func (.func 75) #[] #[.pointer (some ⟨a, 0, none⟩)]) (v1 := .func (.func 76) #[] #[.pointer (some ⟨g, 0, none⟩)]) k0 k1
  have hla := HLA.out
  have hlg := HLG.out
  rw [HZ.out] at hla hlg
  have hn := (hb.cell (World.block_lt_of_cell? _ _ HC.out)).trans HC.out
  have hi := (hb.cell (World.block_lt_of_cell? _ _ HD.out)).trans HD.out
  refine bodyPost_ret_by (rqM rfl s0 s1) rfl ⟨_, rfl, ⟨a, g, w.heap.size, w.heap.size + 1, rfl, ?_, ?_, ?_, ?_⟩, (below_step' HW.out hb).trans (stored2_below (by omega))⟩
  · exact far (far HA.out (by simp only; omega)) (by simp only; omega)
  · exact far (far HG.out (by simp only; omega)) (by simp only; omega)
  · exact far (far hn (by simp only; omega)) (by simp only; omega)
  · exact far (far hi (by simp only; omega)) (by simp only; omega)
def CdU (w : World) (v : Value) : Prop := VerU w v (.func (.func 32) #[] #[]) (.func (.func 36) #[] #[]) 0
theorem CdU.below {w w' : World} {v : Value} (h : CdU w v) (hb : Below w.heap.size w w') : CdU w' v := VerU.below h hb
theorem counters_any (w : World) :
    Calls Try.prog 13 #[] w (PostV w fun w' v => CdU w' v) := by
  have HV := Lib.hid (fun W p g pc gc => verU_any p g pc gc W)
  have HB := Lib.hid (Bx2.new w .nilFunc .nilFunc 42)
  have HW : Hid (Below w.heap.size w (w.alloc (.cells #[.nilFunc, .nilFunc] 42))) := (Below.refl _ _).alloc (Nat.le_refl _) _
  have HZ := Lib.hid (size1 w (.cells #[.nilFunc, .nilFunc] 42))
  go_enter Try.func13, Try.ntmps13
  go_wp2_with (go_at_call 45; refine (HV.out _ _ _ _ _).mono ?_; rintro e w1 ⟨v, rfl, ⟨a, g, rfl, ha, hg, la, lg⟩, hb⟩; have HA := Lib.hid ha; have HG := Lib.hid hg; have HLA := Lib.hid la; have HLG := Lib.hid lg; clear ha hg la lg; obtain ⟨k0, k1, f0, f1⟩ := HB.out.below hb)
  obtain ⟨s0, s1⟩ := stored2 (v0 := .func (.func 77) #[] #[.pointer (some ⟨a, 0, none⟩)]) (v1 := .func (.func 78) #[] #[.pointer (some ⟨g, 0, none⟩)]) k0 k1
  have hla := HLA.out
  have hlg := HLG.out
  rw [HZ.out] at hla hlg
  refine bodyPost_ret_by (rqU rfl s0 s1) rfl ⟨_, rfl, ⟨a, g, rfl, ?_, ?_, Nat.zero_le _, Nat.zero_le _⟩, (below_step' HW.out hb).trans (stored2_below (Nat.le_refl _))⟩
  · exact far (far HA.out (by simp only; omega)) (by simp only; omega)
  · exact far (far HG.out (by simp only; omega)) (by simp only; omega)
end Go.Proofs.Ytfoijhofpjaldaa
