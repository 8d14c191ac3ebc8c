/- Texts of one seat, merged. -/
import Derived.Test.YtgmneapgihakgaaGreatDoorZ16
import Derived.Test.YtgmneapgihakgaaGreatDoorZ14
set_option maxRecDepth 100000
set_option maxHeartbeats 4000000
set_option linter.unusedVariables false
/- The contracts of a versioned codec's reading: of a number. -/
namespace Go.Proofs.YtgmneapgihakgaaGreatDoor
open Go.RowKit
def getU (s : ByteArray) (e : Int) : Nat × ByteArray × Int := (Oc.val (tk s e 8).1.data.toList, (tk s e 8).2.1, (tk s e 8).2.2)
def getW (s : ByteArray) (e : Int) : Nat × ByteArray × Int := (Oc.val (tk s e 2).1.data.toList, (tk s e 2).2.1, (tk s e 2).2.2)
theorem getFnU_any (b : Nat) (s : ByteArray) (e : Int) (w : World) (h : Rd w b s e) :
    Calls Tryz.prog 191 #[.pointer (some ⟨b, 0, none⟩)] w fun v w' => v = .returned (.int .u64 ((getU s e).1 : Nat)) ∧ Rd w' b (getU s e).2.1 (getU s e).2.2 ∧ Upd b w w' := eight_rd b s e w h
theorem vgetU_any (b g : Nat) (s : ByteArray) (e : Int) (w : World) (h : Rd w b s e) (hG : Gv0 w b g (.func (.func 191) #[] #[])) :
    Calls Tryz.prog 293 #[.pointer (some ⟨b, 0, none⟩), .pointer (some ⟨g, 0, none⟩)] w fun x w' => x = .returned (.int .u64 ((verG 0 getU s e).1 : Nat)) ∧ Rd w' b (verG 0 getU s e).2.1 (verG 0 getU s e).2.2 ∧ Upd b w w' := by
  have HR := Lib.hid h
  have HG := Lib.hid hG
  clear h hG
  unfold verG
  simp only
  have HO := Lib.hid (fun W (hW : Rd W b s e) => one_rd b s e W hW)
  revert HO
  generalize tk s e 1 = O
  intro HO
  by_cases hv : Oc.val O.1.data.toList = 1
  · rw [if_pos hv]
    rw [hv] at HO
    clear hv
    have HF := Lib.hid (fun W (hW : Rd W b O.2.1 O.2.2) => getFnU_any b O.2.1 O.2.2 W hW)
    revert HF
    generalize getU O.2.1 O.2.2 = G
    intro HF
    have HE := Lib.hid (fun W (hW : Rd W b G.2.1 G.2.2) => err_any b G.2.1 G.2.2 W hW)
    obtain ⟨n, r, f⟩ := G
    simp only at HF HE ⊢
    by_cases hf : f = 0
    · subst hf
      rw [if_pos rfl]
      go_enter Tryz.func293, Tryz.ntmps293
      go_wp2_with (first
        | (go_at_call 260; refine (HO.out _ HR.out).mono ?_; rintro x w1 ⟨rfl, hr1, hu1⟩; have qf := (HG.out.upd hu1).cg)
        | (go_at_call 191; refine (HF.out _ hr1).mono ?_; rintro x w2 ⟨rfl, hr2, hu2⟩; clear qf)
        | (go_at_call 206; refine (HE.out _ hr2).mono ?_; rintro x w3 ⟨rfl, rfl⟩))
      go_ret
      exact ⟨rfl, hr2, hu1.trans hu2⟩
    · have hf' : (f != 0) = true := by rw [bne_iff_ne]; exact hf
      rw [if_neg hf]
      go_enter Tryz.func293, Tryz.ntmps293
      go_wp2_with (first
        | (go_at_call 260; refine (HO.out _ HR.out).mono ?_; rintro x w1 ⟨rfl, hr1, hu1⟩; have qf := (HG.out.upd hu1).cg)
        | (go_at_call 191; refine (HF.out _ hr1).mono ?_; rintro x w2 ⟨rfl, hr2, hu2⟩; clear qf)
        | (go_at_call 206; refine (HE.out _ hr2).mono ?_; rintro x w3 ⟨rfl, rfl⟩))
      go_ret
      exact ⟨rfl, hr2, hu1.trans hu2⟩
  · rw [if_neg hv]
    have HF := Lib.hid (fun W (hW : Rd W b O.2.1 O.2.2) => fail_any b O.2.1 O.2.2 4 W hW)
    revert HO hv HF
    generalize Oc.val O.1.data.toList = v
    generalize hx : (if O.2.2 = 0 then (4 : Int) else O.2.2) = x4
    intro HO hv HF
    clear hx
    have hd : ((v : Int) != 1) = true := by rw [bne_iff_ne]; omega
    go_enter Tryz.func293, Tryz.ntmps293
    go_wp2_with (first
      | (go_at_call 260; refine (HO.out _ HR.out).mono ?_; rintro x w1 ⟨rfl, hr1, hu1⟩)
      | (go_at_call 261; refine (HF.out _ hr1).mono ?_; rintro x w2 ⟨rfl, hr2, hu2⟩))
    go_ret
    exact ⟨rfl, hr2, hu1.trans hu2⟩
theorem idleGU (p : Addr) (w : World) :
    CallsD Tryz.prog 294 #[.pointer (some p)] .returning w fun e u' w' => e = .returned (.tuple #[]) ∧ u' = .returning ∧ w' = w := by
  refine callsD_of_wpS Tryz.func294 rfl fun c₀ cs hu => ?_
  apply wpS_seq
  apply wpS_region
  simp [wpOpsS, go_sem, recoverD, hu, Tryz.ntmps294, Exit.thenS]
  refine wpS_cond (t := false) (by simp [Act.eval, Array.replicate]) ?_
  simp only [Bool.false_eq_true, if_false]
  refine wpS_of_wp (wp_skip ?_)
  cases c₀
  simp_all [bodyPostS, results, Tryz.results294]
set_option maxHeartbeats 2000000 in
theorem getU_any (pv : Value) (b g : Nat) (s : ByteArray) (e : Int) (w : World) (h : Rd w b s e) (hG : Gv0 w b g (.func (.func 191) #[] #[])) :
    Calls Tryz.prog 237 #[.agg #[pv, .func (.func 293) #[] #[.pointer (some ⟨g, 0, none⟩)]], .pointer (some ⟨b, 0, none⟩)] w fun x w' => x = .returned (.int .u64 ((verG 0 getU s e).1 : Nat)) ∧ Rd w' b (verG 0 getU s e).2.1 (verG 0 getU s e).2.2 ∧ Mod b w w' := by
  have hmf : ∀ (fn : Fn) (first cap : Array Value) (w : World), (Instr.makeFunc fn first cap).run Tryz.prog w = .ok (.func fn first cap) w := fun _ _ _ _ => rfl
  have HR : Hid (∀ o1 o2, Rd ((w.alloc o1).alloc o2) b s e) := fun o1 o2 => (h.alloc o1).alloc o2
  have HGV : Hid (∀ o1 o2, Gv0 ((w.alloc o1).alloc o2) b g (.func (.func 191) #[] #[])) := fun o1 o2 => (hG.alloc o1).alloc o2
  clear h hG
  have HV := Lib.hid (fun W (hW : Rd W b s e) (hV : Gv0 W b g (.func (.func 191) #[] #[])) => vgetU_any b g s e W hW hV)
  revert HV
  generalize verG 0 getU s e = G
  obtain ⟨n, r, f⟩ := G
  intro HV
  simp only at HV ⊢
  go_enter_defers Tryz.func237, Tryz.ntmps237
  go_wp2_with (go_at_call 293; go_loud (refine (HV.out _ (HR.out _ _) (HGV.out _ _)).mono ?_; rintro x w1 ⟨rfl, hr1, hu1⟩))
  refine leaves_cons (f := 294) (args := #[.pointer (some ⟨w.heap.size + 1, 0, none⟩)]) (by simp) (by simp [go_sem]) ?_
  refine (idleGU ⟨w.heap.size + 1, 0, none⟩ _).mono ?_
  rintro e u' w'' ⟨rfl, rfl, rfl⟩
  simp [Leaves, settle, results, Tryz.results237, go_sem]
  exact ⟨hr1, (((Mod.refl b w).alloc _).alloc _).upd hu1⟩
set_option maxHeartbeats 2000000 in
theorem readU_any (pv : Value) (g : Nat) (s : ByteArray) (w : World) (hG : w.cell? ⟨g, 0, none⟩ = some (.func (.func 191) #[] #[])) :
    Calls Tryz.prog 162 #[.agg #[pv, .func (.func 293) #[] #[.pointer (some ⟨g, 0, none⟩)]], .string s] w fun x w' => x = .returned (.tuple #[.int .u64 ((readG 0 getU s).1 : Nat), .int .i64 (readG 0 getU s).2]) ∧ Below w.heap.size w w' := by
  have heq : ∀ w, (binOp .eql 250 (.func (.func 293) #[] #[.pointer (some ⟨g, 0, none⟩)]) .nilFunc).run Tryz.prog w = .ok (.bool false) w := fun w => by kernel_rfl
  have HC0 := Lib.hid (Cd2.new w pv (.func (.func 293) #[] #[.pointer (some ⟨g, 0, none⟩)]) 252)
  have HGV : Hid (Gv0 (w.alloc (.cells #[pv, .func (.func 293) #[] #[.pointer (some ⟨g, 0, none⟩)]] 252)) (w.heap.size + 1) g (.func (.func 191) #[] #[])) :=
    Gv0.alloc ⟨hG, by have := World.block_lt_of_cell? _ _ hG; simp at this; omega⟩ _
  have HG := Lib.hid (fun b W (hW : Rd W b s 0) (hV : Gv0 W b g (.func (.func 191) #[] #[])) => getU_any pv b g s 0 W hW hV)
  clear hG
  unfold readG
  revert HG
  generalize verG 0 getU s 0 = G
  obtain ⟨n, r, f⟩ := G
  intro HG
  simp only at HG ⊢
  have HE := Lib.hid (fun b W (hW : Rd W b r f) => end_rd b r f W hW)
  revert HE
  generalize fin r f = y
  intro HE
  obtain ⟨b, hb⟩ : ∃ b, b = w.heap.size + 1 := ⟨_, rfl⟩
  rw [← hb] at HGV
  have HBE := Lib.hid hb
  clear hb
  by_cases hf : y = 0
  · subst hf
    rw [if_pos rfl]
    go_enter Tryz.func162, Tryz.ntmps162
    go_wp2_with (first
      | (go_at_call 203; refine (over_at _ b _ (by rw [size1, HBE.out])).mono ?_; rintro e w1 ⟨rfl, hr1, hb1⟩; have HGV1 := Lib.hid (HGV.out.below hb1); have HC1 := Lib.hid (HC0.out.below hb1); have HW1 := Lib.hid (below_step ((Below.refl _ w).alloc (Nat.le_refl _) _) hb1); have qa := HC1.out.c0; have qb := HC1.out.c1)
      | (go_at_call 237; refine (HG.out _ _ hr1 HGV1.out).mono ?_; rintro e w2 ⟨rfl, hr2, hm2⟩; have HW2 : Hid (Below w.heap.size w w2) := HW1.out.trans (hm2.below (by rw [HBE.out]; omega) HW1.out.size))
      | (go_at_call 238; refine (HE.out _ _ hr2).mono ?_; rintro e w3 ⟨rfl, rfl⟩))
    go_ret2
    exact ⟨rfl, HW2.out⟩
  · have hf' : (y != 0) = true := by rw [bne_iff_ne]; exact hf
    rw [if_neg hf]
    go_enter Tryz.func162, Tryz.ntmps162
    go_wp2_with (first
      | (go_at_call 203; refine (over_at _ b _ (by rw [size1, HBE.out])).mono ?_; rintro e w1 ⟨rfl, hr1, hb1⟩; have HGV1 := Lib.hid (HGV.out.below hb1); have HC1 := Lib.hid (HC0.out.below hb1); have HW1 := Lib.hid (below_step ((Below.refl _ w).alloc (Nat.le_refl _) _) hb1); have qa := HC1.out.c0; have qb := HC1.out.c1)
      | (go_at_call 237; refine (HG.out _ _ hr1 HGV1.out).mono ?_; rintro e w2 ⟨rfl, hr2, hm2⟩; have HW2 : Hid (Below w.heap.size w w2) := HW1.out.trans (hm2.below (by rw [HBE.out]; omega) HW1.out.size))
      | (go_at_call 238; refine (HE.out _ _ hr2).mono ?_; rintro e w3 ⟨rfl, rfl⟩))
    go_ret2
    exact ⟨rfl, HW2.out⟩
end Go.Proofs.YtgmneapgihakgaaGreatDoor
/- The contracts of what makes a versioned codec. -/
namespace Go.Proofs.YtgmneapgihakgaaGreatDoor
open Go.RowKit
theorem three0 (w : World) (o1 o2 : Obj) (x : Value) (T : TypeId) : (((w.alloc (.cells #[x] T)).alloc o1).alloc o2).cell? ⟨w.heap.size, 0, none⟩ = some x := cell_alloc (cell_alloc (by simp))
theorem three1 (w : World) (o1 o2 : Obj) (x : Value) (T : TypeId) : (((w.alloc o1).alloc (.cells #[x] T)).alloc o2).cell? ⟨w.heap.size + 1, 0, none⟩ = some x := cell_alloc (cell2 w o1 x T)
theorem far {w : World} {p : Addr} {x : Value} {g j : Nat} {v : Value} (h : w.cell? p = some x) (hne : g ≠ p.block) : (w.setCell ⟨g, j, none⟩ v).cell? p = some x := (World.cell?_setCell_far w ⟨g, j, none⟩ p v hne).trans h
theorem stored2 {w : World} {g : Nat} {x0 x1 v0 v1 : Value} (k0 : w.cell? ⟨g, 0, none⟩ = some x0) (k1 : w.cell? ⟨g, 1, none⟩ = some x1) :
    ((w.setCell ⟨g, 0, none⟩ v0).setCell ⟨g, 1, none⟩ v1).cell? ⟨g, 0, none⟩ = some v0 ∧ ((w.setCell ⟨g, 0, none⟩ v0).setCell ⟨g, 1, none⟩ v1).cell? ⟨g, 1, none⟩ = some v1 := by
  have ne01 : (⟨g, 1, none⟩ : Addr) ≠ ⟨g, 0, none⟩ := fun h => by cases h
  have a0 : (w.setCell ⟨g, 0, none⟩ v0).cell? ⟨g, 0, none⟩ = some v0 := World.cell?_setCell_same' _ _ _ (by rw [k0]; rfl)
  have a1 : (w.setCell ⟨g, 0, none⟩ v0).cell? ⟨g, 1, none⟩ = some x1 := by rw [World.cell?_setCell_other _ _ _ _ (fun h => ne01 h.symm), k1]
  refine ⟨?_, World.cell?_setCell_same' _ _ _ (by rw [a1]; rfl)⟩
  rw [World.cell?_setCell_other _ _ _ _ ne01, a0]
theorem stored2_below {w : World} {g B : Nat} {v0 v1 : Value} (hB : B ≤ g) : Below B w ((w.setCell ⟨g, 0, none⟩ v0).setCell ⟨g, 1, none⟩ v1) :=
  ((Below.refl B w).setCell (p := ⟨g, 0, none⟩) hB _).setCell (p := ⟨g, 1, none⟩) hB _
/-- A box of two cells that may be written. -/
structure Bx2 (w : World) (g : Nat) (x0 x1 : Value) : Prop where
  c0 : w.cell? ⟨g, 0, none⟩ = some x0
  c1 : w.cell? ⟨g, 1, none⟩ = some x1
  f0 : w.frozen? ⟨g, 0, none⟩ = false
  f1 : w.frozen? ⟨g, 1, none⟩ = false
theorem Bx2.below {w w' : World} {g : Nat} {x0 x1 : Value} (h : Bx2 w g x0 x1) (hb : Below w.heap.size w w') : Bx2 w' g x0 x1 := by
  have hl := World.block_lt_of_cell? _ _ h.c0
  exact ⟨(hb.cell (p := ⟨g, 0, none⟩) hl).trans h.c0, (hb.cell (p := ⟨g, 1, none⟩) hl).trans h.c1, (hb.frozen (p := ⟨g, 0, none⟩) hl).trans h.f0, (hb.frozen (p := ⟨g, 1, none⟩) hl).trans h.f1⟩
theorem Bx2.new (w : World) (x0 x1 : Value) (T : TypeId) : Bx2 (w.alloc (.cells #[x0, x1] T)) w.heap.size x0 x1 := by constructor <;> simp
theorem Bx2.new1 (w : World) (o : Obj) (x0 x1 : Value) (T : TypeId) : Bx2 ((w.alloc o).alloc (.cells #[x0, x1] T)) (w.heap.size + 1) x0 x1 := by
  have := Bx2.new (w.alloc o) x0 x1 T
  rwa [size1] at this
theorem Bx2.new2 (w : World) (o1 o2 : Obj) (x0 x1 : Value) (T : TypeId) : Bx2 (((w.alloc o1).alloc o2).alloc (.cells #[x0, x1] T)) (w.heap.size + 1 + 1) x0 x1 := by
  have := Bx2.new ((w.alloc o1).alloc o2) x0 x1 T
  rwa [size2] at this
def PostV (w : World) (P : World → Value → Prop) (e : Ending) (w' : World) : Prop := ∃ v, e = .returned v ∧ P w' v ∧ Below w.heap.size w w'
/-- A codec's functions, and what they hold. -/
def VerQ (w : World) (v pf gf : Value) (lo : Nat) : Prop := ∃ a g : Nat, v = .agg #[.func (.func 257) #[] #[.pointer (some ⟨a, 0, none⟩)], .func (.func 259) #[] #[.pointer (some ⟨g, 0, none⟩)]] ∧ w.cell? ⟨a, 0, none⟩ = some pf ∧ w.cell? ⟨g, 0, none⟩ = some gf ∧ lo ≤ a ∧ lo ≤ g
theorem VerQ.below {w w' : World} {v pf gf : Value} {lo : Nat} (h : VerQ w v pf gf lo) (hb : Below w.heap.size w w') : VerQ w' v pf gf lo := by
  obtain ⟨a, g, hv, ha, hg, hl⟩ := h
  exact ⟨a, g, hv, (hb.cell (World.block_lt_of_cell? _ _ ha)).trans ha, (hb.cell (World.block_lt_of_cell? _ _ hg)).trans hg, hl⟩
theorem verQ_any (p g : Fn) (pc gc : Array Value) (w : World) :
    Calls Tryz.prog 193 #[.func p #[] pc, .func g #[] gc] w (PostV w fun w' v => VerQ w' v (.func p #[] pc) (.func g #[] gc) w.heap.size) := by
  have hmf : ∀ (fn : Fn) (first cap : Array Value) (w : World), (Instr.makeFunc fn first cap).run Tryz.prog w = .ok (.func fn first cap) w := fun _ _ _ _ => rfl
  have HQ : Hid (∀ v w', (v = .agg #[.func (.func 257) #[] #[.pointer (some ⟨w.heap.size, 0, none⟩)], .func (.func 259) #[] #[.pointer (some ⟨w.heap.size + 1, 0, none⟩)]] ∧ w'.cell? ⟨w.heap.size, 0, none⟩ = some (.func p #[] pc) ∧ w'.cell? ⟨w.heap.size + 1, 0, none⟩ = some (.func g #[] gc) ∧ Below w.heap.size w w') → PostV w (fun w' v => VerQ w' v (.func p #[] pc) (.func g #[] gc) w.heap.size) (Ending.returned v) w') := by
    rintro v w' ⟨h1, h2, h3, h4⟩
    exact ⟨v, rfl, ⟨_, _, h1, h2, h3, Nat.le_refl _, Nat.le_succ _⟩, h4⟩
  go_enter Tryz.func193, Tryz.ntmps193
  go_wp2
  refine bodyPost_ret_by (v := .agg #[.func (.func 257) #[] #[.pointer (some ⟨w.heap.size, 0, none⟩)], .func (.func 259) #[] #[.pointer (some ⟨w.heap.size + 1, 0, none⟩)]]) ?_ rfl (HQ.out _ _ ⟨rfl, three0 w _ _ _ _, three1 w _ _ _ _, below3 w _ _ _⟩)
  simp [results, Tryz.results193, go_sem]
/-- A codec's functions, and what they hold. -/
def VerM (w : World) (v pf gf : Value) (lo : Nat) : Prop := ∃ a g : Nat, v = .agg #[.func (.func 302) #[] #[.pointer (some ⟨a, 0, none⟩)], .func (.func 303) #[] #[.pointer (some ⟨g, 0, none⟩)]] ∧ w.cell? ⟨a, 0, none⟩ = some pf ∧ w.cell? ⟨g, 0, none⟩ = some gf ∧ lo ≤ a ∧ lo ≤ g
theorem VerM.below {w w' : World} {v pf gf : Value} {lo : Nat} (h : VerM w v pf gf lo) (hb : Below w.heap.size w w') : VerM w' v pf gf lo := by
  obtain ⟨a, g, hv, ha, hg, hl⟩ := h
  exact ⟨a, g, hv, (hb.cell (World.block_lt_of_cell? _ _ ha)).trans ha, (hb.cell (World.block_lt_of_cell? _ _ hg)).trans hg, hl⟩
theorem verM_any (p g : Fn) (pc gc : Array Value) (w : World) :
    Calls Tryz.prog 264 #[.func p #[] pc, .func g #[] gc] w (PostV w fun w' v => VerM w' v (.func p #[] pc) (.func g #[] gc) w.heap.size) := by
  have hmf : ∀ (fn : Fn) (first cap : Array Value) (w : World), (Instr.makeFunc fn first cap).run Tryz.prog w = .ok (.func fn first cap) w := fun _ _ _ _ => rfl
  have HQ : Hid (∀ v w', (v = .agg #[.func (.func 302) #[] #[.pointer (some ⟨w.heap.size, 0, none⟩)], .func (.func 303) #[] #[.pointer (some ⟨w.heap.size + 1, 0, none⟩)]] ∧ w'.cell? ⟨w.heap.size, 0, none⟩ = some (.func p #[] pc) ∧ w'.cell? ⟨w.heap.size + 1, 0, none⟩ = some (.func g #[] gc) ∧ Below w.heap.size w w') → PostV w (fun w' v => VerM w' v (.func p #[] pc) (.func g #[] gc) w.heap.size) (Ending.returned v) w') := by
    rintro v w' ⟨h1, h2, h3, h4⟩
    exact ⟨v, rfl, ⟨_, _, h1, h2, h3, Nat.le_refl _, Nat.le_succ _⟩, h4⟩
  go_enter Tryz.func264, Tryz.ntmps264
  go_wp2
  refine bodyPost_ret_by (v := .agg #[.func (.func 302) #[] #[.pointer (some ⟨w.heap.size, 0, none⟩)], .func (.func 303) #[] #[.pointer (some ⟨w.heap.size + 1, 0, none⟩)]]) ?_ rfl (HQ.out _ _ ⟨rfl, three0 w _ _ _ _, three1 w _ _ _ _, below3 w _ _ _⟩)
  simp [results, Tryz.results264, go_sem]
/-- A codec's functions, and what they hold. -/
def VerU (w : World) (v pf gf : Value) (lo : Nat) : Prop := ∃ a g : Nat, v = .agg #[.func (.func 292) #[] #[.pointer (some ⟨a, 0, none⟩)], .func (.func 293) #[] #[.pointer (some ⟨g, 0, none⟩)]] ∧ w.cell? ⟨a, 0, none⟩ = some pf ∧ w.cell? ⟨g, 0, none⟩ = some gf ∧ lo ≤ a ∧ lo ≤ g
theorem VerU.below {w w' : World} {v pf gf : Value} {lo : Nat} (h : VerU w v pf gf lo) (hb : Below w.heap.size w w') : VerU w' v pf gf lo := by
  obtain ⟨a, g, hv, ha, hg, hl⟩ := h
  exact ⟨a, g, hv, (hb.cell (World.block_lt_of_cell? _ _ ha)).trans ha, (hb.cell (World.block_lt_of_cell? _ _ hg)).trans hg, hl⟩
theorem verU_any (p g : Fn) (pc gc : Array Value) (w : World) :
    Calls Tryz.prog 236 #[.func p #[] pc, .func g #[] gc] w (PostV w fun w' v => VerU w' v (.func p #[] pc) (.func g #[] gc) w.heap.size) := by
  have hmf : ∀ (fn : Fn) (first cap : Array Value) (w : World), (Instr.makeFunc fn first cap).run Tryz.prog w = .ok (.func fn first cap) w := fun _ _ _ _ => rfl
  have HQ : Hid (∀ v w', (v = .agg #[.func (.func 292) #[] #[.pointer (some ⟨w.heap.size, 0, none⟩)], .func (.func 293) #[] #[.pointer (some ⟨w.heap.size + 1, 0, none⟩)]] ∧ w'.cell? ⟨w.heap.size, 0, none⟩ = some (.func p #[] pc) ∧ w'.cell? ⟨w.heap.size + 1, 0, none⟩ = some (.func g #[] gc) ∧ Below w.heap.size w w') → PostV w (fun w' v => VerU w' v (.func p #[] pc) (.func g #[] gc) w.heap.size) (Ending.returned v) w') := by
    rintro v w' ⟨h1, h2, h3, h4⟩
    exact ⟨v, rfl, ⟨_, _, h1, h2, h3, Nat.le_refl _, Nat.le_succ _⟩, h4⟩
  go_enter Tryz.func236, Tryz.ntmps236
  go_wp2
  refine bodyPost_ret_by (v := .agg #[.func (.func 292) #[] #[.pointer (some ⟨w.heap.size, 0, none⟩)], .func (.func 293) #[] #[.pointer (some ⟨w.heap.size + 1, 0, none⟩)]]) ?_ rfl (HQ.out _ _ ⟨rfl, three0 w _ _ _ _, three1 w _ _ _ _, below3 w _ _ _⟩)
  simp [results, Tryz.results236, go_sem]
/-- A queue's codec of a name. -/
def CdQ (w : World) (v : Value) (nm : ByteArray) : Prop := ∃ a g n : Nat, v = .agg #[.func (.func 257) #[] #[.pointer (some ⟨a, 0, none⟩)], .func (.func 259) #[] #[.pointer (some ⟨g, 0, none⟩)]] ∧ w.cell? ⟨a, 0, none⟩ = some (.func (.func 185) #[] #[]) ∧ w.cell? ⟨g, 0, none⟩ = some (.func (.func 189) #[] #[.pointer (some ⟨n, 0, none⟩)]) ∧ w.cell? ⟨n, 0, none⟩ = some (.string nm)
def CdM (w : World) (v : Value) (nm : ByteArray) (i : Nat) : Prop := ∃ a g n c : Nat, v = .agg #[.func (.func 302) #[] #[.pointer (some ⟨a, 0, none⟩)], .func (.func 303) #[] #[.pointer (some ⟨g, 0, none⟩)]] ∧ w.cell? ⟨a, 0, none⟩ = some (.func (.func 262) #[] #[]) ∧ w.cell? ⟨g, 0, none⟩ = some (.func (.func 263) #[] #[.pointer (some ⟨n, 0, none⟩), .pointer (some ⟨c, 0, none⟩)]) ∧ w.cell? ⟨n, 0, none⟩ = some (.string nm) ∧ w.cell? ⟨c, 0, none⟩ = some (.int .u64 i)
theorem CdQ.below {w w' : World} {v : Value} {nm : ByteArray} (h : CdQ w v nm) (hb : Below w.heap.size w w') : CdQ w' v nm := by
  obtain ⟨a, g, n, hv, ha, hg, hn⟩ := h
  exact ⟨a, g, n, hv, (hb.cell (World.block_lt_of_cell? _ _ ha)).trans ha, (hb.cell (World.block_lt_of_cell? _ _ hg)).trans hg, (hb.cell (World.block_lt_of_cell? _ _ hn)).trans hn⟩
theorem CdM.below {w w' : World} {v : Value} {nm : ByteArray} {i : Nat} (h : CdM w v nm i) (hb : Below w.heap.size w w') : CdM w' v nm i := by
  obtain ⟨a, g, n, c, hv, ha, hg, hn, hc⟩ := h
  exact ⟨a, g, n, c, hv, (hb.cell (World.block_lt_of_cell? _ _ ha)).trans ha, (hb.cell (World.block_lt_of_cell? _ _ hg)).trans hg, (hb.cell (World.block_lt_of_cell? _ _ hn)).trans hn, (hb.cell (World.block_lt_of_cell? _ _ hc)).trans hc⟩
theorem CdQ.of {w : World} {v : Value} {nm : ByteArray} {n lo : Nat} (h : VerQ w v (.func (.func 185) #[] #[]) (.func (.func 189) #[] #[.pointer (some ⟨n, 0, none⟩)]) lo) (hn : w.cell? ⟨n, 0, none⟩ = some (.string nm)) : CdQ w v nm := by
  obtain ⟨a, g, hv, ha, hg, _⟩ := h
  exact ⟨a, g, n, hv, ha, hg, hn⟩
theorem CdM.of {w : World} {v : Value} {nm : ByteArray} {i n c lo : Nat} (h : VerM w v (.func (.func 262) #[] #[]) (.func (.func 263) #[] #[.pointer (some ⟨n, 0, none⟩), .pointer (some ⟨c, 0, none⟩)]) lo) (hn : w.cell? ⟨n, 0, none⟩ = some (.string nm)) (hc : w.cell? ⟨c, 0, none⟩ = some (.int .u64 i)) : CdM w v nm i := by
  obtain ⟨a, g, hv, ha, hg, _⟩ := h
  exact ⟨a, g, n, c, hv, ha, hg, hn, hc⟩
theorem CdQ.bytes {W : World} {v : Value} {nm : ByteArray} (h : CdQ W v nm) (q : Qu) (hq : q.ok) :
    Calls Tryz.prog 90 #[v, aggQ q] W fun e w' => e = .returned (.string (str (1 :: encQ q))) ∧ Below W.heap.size W w' := by
  obtain ⟨a, g, n, rfl, ha, hg, hn⟩ := h
  exact bytesQ_any q hq a _ W ha
theorem CdM.bytes {W : World} {v : Value} {nm : ByteArray} {i : Nat} (h : CdM W v nm i) (m : Ms) (hm : m.ok) :
    Calls Tryz.prog 217 #[v, aggM m] W fun e w' => e = .returned (.string (str (1 :: encM m))) ∧ Below W.heap.size W w' := by
  obtain ⟨a, g, n, c, rfl, ha, hg, hn, hc⟩ := h
  exact bytesM_any m hm a _ W ha
theorem CdQ.read {W : World} {v : Value} {nm : ByteArray} (h : CdQ W v nm) (s : ByteArray) :
    Calls Tryz.prog 170 #[v, .string s] W fun x w' => x = .returned (.tuple #[aggQ (readG zQ (getQ nm) s).1, .int .i64 (readG zQ (getQ nm) s).2]) ∧ Below W.heap.size W w' := by
  obtain ⟨a, g, n, rfl, ha, hg, hn⟩ := h
  have h1 := World.block_lt_of_cell? _ _ hg
  have h2 := World.block_lt_of_cell? _ _ hn
  simp only at h1 h2
  exact readQ_any _ g n nm s W (fun b hb => ⟨⟨hg, by omega⟩, ⟨hn, by omega⟩⟩)
theorem CdM.read {W : World} {v : Value} {nm : ByteArray} {i : Nat} (h : CdM W v nm i) (s : ByteArray) :
    Calls Tryz.prog 200 #[v, .string s] W fun x w' => x = .returned (.tuple #[aggM (readG zM (getM nm i) s).1, .int .i64 (readG zM (getM nm i) s).2]) ∧ Below W.heap.size W w' := by
  obtain ⟨a, g, n, c, rfl, ha, hg, hn, hc⟩ := h
  have h1 := World.block_lt_of_cell? _ _ hg
  have h2 := World.block_lt_of_cell? _ _ hn
  have h3 := World.block_lt_of_cell? _ _ hc
  simp only at h1 h2 h3
  exact readM_any _ g n c nm i s W (fun b hb => ⟨⟨hg, by omega⟩, ⟨hn, by omega⟩, ⟨hc, by omega⟩⟩)
theorem VerU.bytes {W : World} {v : Value} {lo : Nat} (h : VerU W v (.func (.func 187) #[] #[]) (.func (.func 191) #[] #[]) lo) (n : Nat) (hn : n < 18446744073709551616) :
    Calls Tryz.prog 163 #[v, .int .u64 n] W fun e w' => e = .returned (.string (str (1 :: Oc.big 8 n))) ∧ Below W.heap.size W w' := by
  obtain ⟨a, g, rfl, ha, hg, _⟩ := h
  exact bytesU_any n hn a _ W ha
theorem VerU.read {W : World} {v : Value} {lo : Nat} (h : VerU W v (.func (.func 187) #[] #[]) (.func (.func 191) #[] #[]) lo) (s : ByteArray) :
    Calls Tryz.prog 162 #[v, .string s] W fun x w' => x = .returned (.tuple #[.int .u64 ((readG 0 getU s).1 : Nat), .int .i64 (readG 0 getU s).2]) ∧ Below W.heap.size W w' := by
  obtain ⟨a, g, rfl, ha, hg, _⟩ := h
  exact readU_any _ g s W hg
theorem rqQ {w : World} {g : Nat} {x0 x1 : Value} {tmps : Array Value} (ht : tmps[2]? = some (.pointer (some ⟨g, 0, none⟩))) (h0 : w.cell? ⟨g, 0, none⟩ = some x0) (h1 : w.cell? ⟨g, 1, none⟩ = some x1) :
    (results Tryz.f89 tmps).run Tryz.prog w = .ok (.agg #[x0, x1]) w := by
  simp [results, Tryz.results89, go_sem, ht, h0, h1]
theorem rqM {w : World} {g : Nat} {x0 x1 : Value} {tmps : Array Value} (ht : tmps[4]? = some (.pointer (some ⟨g, 0, none⟩))) (h0 : w.cell? ⟨g, 0, none⟩ = some x0) (h1 : w.cell? ⟨g, 1, none⟩ = some x1) :
    (results Tryz.f199 tmps).run Tryz.prog w = .ok (.agg #[x0, x1]) w := by
  simp [results, Tryz.results199, go_sem, ht, h0, h1]
theorem rqU {w : World} {g : Nat} {x0 x1 : Value} {tmps : Array Value} (ht : tmps[0]? = some (.pointer (some ⟨g, 0, none⟩))) (h0 : w.cell? ⟨g, 0, none⟩ = some x0) (h1 : w.cell? ⟨g, 1, none⟩ = some x1) :
    (results Tryz.f161 tmps).run Tryz.prog w = .ok (.agg #[x0, x1]) w := by
  simp [results, Tryz.results161, go_sem, ht, h0, h1]
theorem queues_any (nm : ByteArray) (w : World) :
    Calls Tryz.prog 89 #[.string nm] w (PostV w fun w' v => CdQ w' v nm) := by
  have hmf : ∀ (fn : Fn) (first cap : Array Value) (w : World), (Instr.makeFunc fn first cap).run Tryz.prog w = .ok (.func fn first cap) w := fun _ _ _ _ => rfl
  have HV := Lib.hid (fun W p g pc gc => verQ_any p g pc gc W)
  have HC := Lib.hid (cell_alloc (o := .cells #[.nilFunc, .nilFunc] 176) (show (w.alloc (.cells #[.string nm] 9)).cell? ⟨w.heap.size, 0, none⟩ = some (.string nm) by simp))
  have HB := Lib.hid (Bx2.new1 w (.cells #[.string nm] 9) .nilFunc .nilFunc 176)
  have HW := Lib.hid (below2 w (.cells #[.string nm] 9) (.cells #[.nilFunc, .nilFunc] 176))
  have HZ := Lib.hid (size2 w (.cells #[.string nm] 9) (.cells #[.nilFunc, .nilFunc] 176))
  go_enter Tryz.func89, Tryz.ntmps89
  go_wp2_with (go_at_call 193; refine (HV.out _ _ _ _ _).mono ?_; rintro e w1 ⟨v, rfl, ⟨a, g, rfl, ha, hg, la, lg⟩, hb⟩; have HA := Lib.hid ha; have HG := Lib.hid hg; have HLA := Lib.hid la; have HLG := Lib.hid lg; clear ha hg la lg; obtain ⟨k0, k1, f0, f1⟩ := HB.out.below hb)
  obtain ⟨s0, s1⟩ := stored2 (v0 := .func (.func 257) #[] #[.pointer (some ⟨a, 0, none⟩)]) (v1 := .func (.func 259) #[] #[.pointer (some ⟨g, 0, none⟩)]) k0 k1
  have hla := HLA.out
  have hlg := HLG.out
  rw [HZ.out] at hla hlg
  have hn := (hb.cell (World.block_lt_of_cell? _ _ HC.out)).trans HC.out
  refine bodyPost_ret_by (rqQ rfl s0 s1) rfl ⟨_, rfl, ⟨a, g, w.heap.size, rfl, ?_, ?_, ?_⟩, (below_step' HW.out hb).trans (stored2_below (by omega))⟩
  · exact far (far HA.out (by simp only; omega)) (by simp only; omega)
  · exact far (far HG.out (by simp only; omega)) (by simp only; omega)
  · exact far (far hn (by simp only; omega)) (by simp only; omega)
theorem messages_any (nm : ByteArray) (i : Nat) (w : World) :
    Calls Tryz.prog 199 #[.string nm, .int .u64 i] w (PostV w fun w' v => CdM w' v nm i) := by
  have hmf : ∀ (fn : Fn) (first cap : Array Value) (w : World), (Instr.makeFunc fn first cap).run Tryz.prog w = .ok (.func fn first cap) w := fun _ _ _ _ => rfl
  have HV := Lib.hid (fun W p g pc gc => verM_any p g pc gc W)
  have HC := Lib.hid (three0 w (.cells #[.int .u64 i] 34) (.cells #[.nilFunc, .nilFunc] 291) (.string nm) 9)
  have HD := Lib.hid (three1 w (.cells #[.string nm] 9) (.cells #[.nilFunc, .nilFunc] 291) (.int .u64 i) 34)
  have HB := Lib.hid (Bx2.new2 w (.cells #[.string nm] 9) (.cells #[.int .u64 i] 34) .nilFunc .nilFunc 291)
  have HW := Lib.hid (below3 w (.cells #[.string nm] 9) (.cells #[.int .u64 i] 34) (.cells #[.nilFunc, .nilFunc] 291))
  have HZ := Lib.hid (size3 w (.cells #[.string nm] 9) (.cells #[.int .u64 i] 34) (.cells #[.nilFunc, .nilFunc] 291))
  go_enter Tryz.func199, Tryz.ntmps199
  go_wp2_with (go_at_call 264; refine (HV.out _ _ _ _ _).mono ?_; rintro e w1 ⟨v, rfl, ⟨a, g, rfl, ha, hg, la, lg⟩, hb⟩; have HA := Lib.hid ha; have HG := Lib.hid hg; have HLA := Lib.hid la; have HLG := Lib.hid lg; clear ha hg la lg; obtain ⟨k0, k1, f0, f1⟩ := HB.out.below hb)
  obtain ⟨s0, s1⟩ := stored2 (v0 := .func (.func 302) #[] #[.pointer (some ⟨a, 0, none⟩)]) (v1 := .func (.func 303) #[] #[.pointer (some ⟨g, 0, none⟩)]) k0 k1
  have hla := HLA.out
  have hlg := HLG.out
  rw [HZ.out] at hla hlg
  have hn := (hb.cell (World.block_lt_of_cell? _ _ HC.out)).trans HC.out
  have hi := (hb.cell (World.block_lt_of_cell? _ _ HD.out)).trans HD.out
  refine bodyPost_ret_by (rqM rfl s0 s1) rfl ⟨_, rfl, ⟨a, g, w.heap.size, w.heap.size + 1, rfl, ?_, ?_, ?_, ?_⟩, (below_step' HW.out hb).trans (stored2_below (by omega))⟩
  · exact far (far HA.out (by simp only; omega)) (by simp only; omega)
  · exact far (far HG.out (by simp only; omega)) (by simp only; omega)
  · exact far (far hn (by simp only; omega)) (by simp only; omega)
  · exact far (far hi (by simp only; omega)) (by simp only; omega)
def CdU (w : World) (v : Value) : Prop := VerU w v (.func (.func 187) #[] #[]) (.func (.func 191) #[] #[]) 0
theorem CdU.below {w w' : World} {v : Value} (h : CdU w v) (hb : Below w.heap.size w w') : CdU w' v := VerU.below h hb
theorem counters_any (w : World) :
    Calls Tryz.prog 161 #[] w (PostV w fun w' v => CdU w' v) := by
  have HV := Lib.hid (fun W p g pc gc => verU_any p g pc gc W)
  have HB := Lib.hid (Bx2.new w .nilFunc .nilFunc 252)
  have HW : Hid (Below w.heap.size w (w.alloc (.cells #[.nilFunc, .nilFunc] 252))) := (Below.refl _ _).alloc (Nat.le_refl _) _
  have HZ := Lib.hid (size1 w (.cells #[.nilFunc, .nilFunc] 252))
  go_enter Tryz.func161, Tryz.ntmps161
  go_wp2_with (go_at_call 236; refine (HV.out _ _ _ _ _).mono ?_; rintro e w1 ⟨v, rfl, ⟨a, g, rfl, ha, hg, la, lg⟩, hb⟩; have HA := Lib.hid ha; have HG := Lib.hid hg; have HLA := Lib.hid la; have HLG := Lib.hid lg; clear ha hg la lg; obtain ⟨k0, k1, f0, f1⟩ := HB.out.below hb)
  obtain ⟨s0, s1⟩ := stored2 (v0 := .func (.func 292) #[] #[.pointer (some ⟨a, 0, none⟩)]) (v1 := .func (.func 293) #[] #[.pointer (some ⟨g, 0, none⟩)]) k0 k1
  have hla := HLA.out
  have hlg := HLG.out
  rw [HZ.out] at hla hlg
  refine bodyPost_ret_by (rqU rfl s0 s1) rfl ⟨_, rfl, ⟨a, g, rfl, ?_, ?_, Nat.zero_le _, Nat.zero_le _⟩, (below_step' HW.out hb).trans (stored2_below (Nat.le_refl _))⟩
  · exact far (far HA.out (by simp only; omega)) (by simp only; omega)
  · exact far (far HG.out (by simp only; omega)) (by simp only; omega)
end Go.Proofs.YtgmneapgihakgaaGreatDoor
/- ask.Thing: what stands under a key: a queue; a number. -/
namespace Go.Proofs.YtgmneapgihakgaaGreatDoor
open Go.RowKit Go.Sort Go.Maps
/-- What Thing answers, of what stands there and what reading says. -/
def tgOut (z q : Value) (th : Bool) (ge re : Int) : Value := if ge ≠ 0 ∨ th = false then .tuple #[z, .bool false, .int .i64 ge] else if re ≠ 0 then .tuple #[z, .bool false, .int .i64 re] else .tuple #[q, .bool true, .int .i64 0]
theorem thingU_any (sv : Value) (k V : Txt) (th : Bool) (ge : Int) (cd : Value) (n : Nat) (re : Int) (w : World)
    (HG : Calls Tryz.prog 80 #[sv, .string (str k)] w fun e W' => e = .returned (got V th ge) ∧ Below w.heap.size w W')
    (HR : ∀ W, Below w.heap.size w W → Calls Tryz.prog 162 #[cd, .string (str V)] W fun e W' => e = .returned (.tuple #[.int .u64 n, .int .i64 re]) ∧ Below W.heap.size W W') (hge : ge = 0 ∨ th = false) :
    Calls Tryz.prog 160 #[sv, .string (str k), .func (.func 162) #[cd] #[]] w fun e w' => e = .returned (tgOut (.int .u64 0) (.int .u64 n) th ge re) ∧ Below w.heap.size w w' := by
  have HGG := Lib.hid HG
  have HRR := Lib.hid HR
  clear HG HR
  cases th with
  | false =>
    have e1 : got V false ge = .tuple #[.string ⟨#[]⟩, .bool false, .int .i64 ge] := by unfold got; rw [if_neg (by simp)]; rfl
    rw [e1] at HGG
    have e2 : tgOut (.int .u64 0) (.int .u64 n) false ge re = .tuple #[.int .u64 0, .bool false, .int .i64 ge] := by unfold tgOut; rw [if_pos (.inr rfl)]
    rw [e2]
    clear e1 e2
    by_cases h0 : ge = 0
    · subst h0
      go_enter Tryz.func160, Tryz.ntmps160
      go_wp2_with (go_at_call 80; refine HGG.out.mono ?_; rintro e w1 ⟨rfl, hb1⟩)
      go_ret3
      exact ⟨rfl, hb1⟩
    · have hb : (ge != 0) = true := by simpa using h0
      clear h0
      go_enter Tryz.func160, Tryz.ntmps160
      go_wp2_with (go_at_call 80; refine HGG.out.mono ?_; rintro e w1 ⟨rfl, hb1⟩)
      go_ret3
      exact ⟨rfl, hb1⟩
  | true =>
    obtain rfl : ge = 0 := hge.elim id (fun h => by cases h)
    have e1 : got V true 0 = .tuple #[.string (str V), .bool true, .int .i64 0] := by unfold got; rw [if_pos (by simp)]
    rw [e1] at HGG
    clear e1
    by_cases h0 : re = 0
    · subst h0
      have e2 : tgOut (.int .u64 0) (.int .u64 n) true 0 0 = .tuple #[.int .u64 n, .bool true, .int .i64 0] := by unfold tgOut; rw [if_neg (by simp), if_neg (by simp)]
      rw [e2]
      clear e2
      go_enter Tryz.func160, Tryz.ntmps160
      go_wp2_with (first
        | (go_at_call 80; refine HGG.out.mono ?_; rintro e w1 ⟨rfl, hb1⟩)
        | (go_at_call 162; refine (HRR.out _ hb1).mono ?_; rintro e w2 ⟨rfl, hb2⟩))
      go_ret3
      exact ⟨rfl, below_step hb1 hb2⟩
    · have e2 : tgOut (.int .u64 0) (.int .u64 n) true 0 re = .tuple #[.int .u64 0, .bool false, .int .i64 re] := by unfold tgOut; rw [if_neg (by simp), if_pos h0]
      rw [e2]
      have hb : (re != 0) = true := by simpa using h0
      clear h0 e2
      go_enter Tryz.func160, Tryz.ntmps160
      go_wp2_with (first
        | (go_at_call 80; refine HGG.out.mono ?_; rintro e w1 ⟨rfl, hb1⟩)
        | (go_at_call 162; refine (HRR.out _ hb1).mono ?_; rintro e w2 ⟨rfl, hb2⟩))
      go_ret3
      exact ⟨rfl, below_step hb1 hb2⟩
theorem rrTg {w : World} {g : Nat} {x0 x1 x2 x3 x4 : Value} {b : Bool} {e : Int} {tmps : Array Value} (ht : tmps[6]? = some (.pointer (some ⟨g, 0, none⟩))) (h7 : tmps[7]? = some (.bool b)) (h8 : tmps[8]? = some (.int .i64 e)) (hx : BoxL w g 36 #[x0, x1, x2, x3, x4]) :
    (results Tryz.f169 tmps).run Tryz.prog w = .ok (.tuple #[.agg #[x0, x1, x2, x3, x4], .bool b, .int .i64 e]) w := by
  have h0 := hx.cell (i := 0) rfl
  have h1 := hx.cell (i := 1) rfl
  have h2 := hx.cell (i := 2) rfl
  have h3 := hx.cell (i := 3) rfl
  have h4 := hx.cell (i := 4) rfl
  simp [results, Tryz.results169, go_sem, ht, h7, h8, h0, h1, h2, h3, h4]
theorem two0 (w : World) (xs ys : Array Value) (T U : TypeId) : BoxL ((w.alloc (.cells xs T)).alloc (.cells ys U)) w.heap.size T xs ∧ BoxL ((w.alloc (.cells xs T)).alloc (.cells ys U)) (w.heap.size + 1) U ys ∧ Below w.heap.size w ((w.alloc (.cells xs T)).alloc (.cells ys U)) := by
  refine ⟨(BoxL.new w _ _).alloc _, ?_, ((Below.refl _ _).alloc (Nat.le_refl _) _).alloc (by simp) _⟩
  have := BoxL.new (w.alloc (.cells xs T)) ys U
  rwa [World.size_alloc] at this
theorem below_sets {B g : Nat} {w w1 : World} {x0 x1 x2 x3 x4 : Value} (h : Below B w w1) (hg : B ≤ g) : Below B w (((((w1.setCell ⟨g, 0, none⟩ x0).setCell ⟨g, 1, none⟩ x1).setCell ⟨g, 2, none⟩ x2).setCell ⟨g, 3, none⟩ x3).setCell ⟨g, 4, none⟩ x4) :=
  ((((h.setCell (p := ⟨g, 0, none⟩) hg _).setCell (p := ⟨g, 1, none⟩) hg _).setCell (p := ⟨g, 2, none⟩) hg _).setCell (p := ⟨g, 3, none⟩) hg _).setCell (p := ⟨g, 4, none⟩) hg _
theorem thingQ_any (sv : Value) (k V : Txt) (th : Bool) (ge : Int) (cd : Value) (q : Qu) (re : Int) (w : World)
    (HG : ∀ W, Below w.heap.size w W → Calls Tryz.prog 80 #[sv, .string (str k)] W fun e W' => e = .returned (got V th ge) ∧ Below W.heap.size W W')
    (HR : ∀ W, Below w.heap.size w W → Calls Tryz.prog 170 #[cd, .string (str V)] W fun e W' => e = .returned (.tuple #[aggQ q, .int .i64 re]) ∧ Below W.heap.size W W') (hge : ge = 0 ∨ th = false) :
    Calls Tryz.prog 169 #[sv, .string (str k), .func (.func 170) #[cd] #[]] w fun e w' => e = .returned (tgOut (.agg #[.string ⟨#[]⟩, .int .u32 0, .int .u64 0, .int .u32 0, .string ⟨#[]⟩]) (aggQ q) th ge re) ∧ Below w.heap.size w w' := by
  have HT := Lib.hid (two0 w #[.string ⟨#[]⟩, .int .u32 0, .int .u64 0, .int .u32 0, .string ⟨#[]⟩] #[.string ⟨#[]⟩, .int .u32 0, .int .u64 0, .int .u32 0, .string ⟨#[]⟩] 36 36)
  have HGG := Lib.hid (HG _ HT.out.2.2)
  have HRR := Lib.hid HR
  clear HG HR
  unfold aggQ at HRR ⊢
  cases th with
  | false =>
    have e1 : got V false ge = .tuple #[.string ⟨#[]⟩, .bool false, .int .i64 ge] := by unfold got; rw [if_neg (by simp)]; rfl
    rw [e1] at HGG
    have e2 : ∀ q, tgOut (.agg #[.string ⟨#[]⟩, .int .u32 0, .int .u64 0, .int .u32 0, .string ⟨#[]⟩]) q false ge re = .tuple #[.agg #[.string ⟨#[]⟩, .int .u32 0, .int .u64 0, .int .u32 0, .string ⟨#[]⟩], .bool false, .int .i64 ge] := fun q => by unfold tgOut; rw [if_pos (.inr rfl)]
    rw [e2]
    clear e1 e2
    by_cases h0 : ge = 0
    · subst h0
      go_enter Tryz.func169, Tryz.ntmps169
      go_wp2_with (go_at_call 80; refine HGG.out.mono ?_; rintro e w1 ⟨rfl, hb1⟩; have x1 := HT.out.1.below hb1 HT.out.1.lt; have y1 := HT.out.2.1.below hb1 HT.out.2.1.lt; have f1 := x1.frozen; have q0 := x1.cell (i := 0) rfl; have q1 := x1.cell (i := 1) rfl; have q2 := x1.cell (i := 2) rfl; have q3 := x1.cell (i := 3) rfl; have q4 := x1.cell (i := 4) rfl; have z0 := y1.cell (i := 0) rfl; have z1 := y1.cell (i := 1) rfl; have z2 := y1.cell (i := 2) rfl; have z3 := y1.cell (i := 3) rfl; have z4 := y1.cell (i := 4) rfl)
      have xs := (((((x1.set 0 (.string ⟨#[]⟩)).set 1 (.int .u32 0)).set 2 (.int .u64 0)).set 3 (.int .u32 0)).set 4 (.string ⟨#[]⟩))
      exact bodyPost_ret_by (rrTg rfl rfl rfl xs) rfl ⟨rfl, below_sets (below_step HT.out.2.2 hb1) (Nat.le_refl _)⟩
    · have hb : (ge != 0) = true := by simpa using h0
      clear h0
      go_enter Tryz.func169, Tryz.ntmps169
      go_wp2_with (go_at_call 80; refine HGG.out.mono ?_; rintro e w1 ⟨rfl, hb1⟩; have x1 := HT.out.1.below hb1 HT.out.1.lt; have y1 := HT.out.2.1.below hb1 HT.out.2.1.lt; have f1 := x1.frozen; have q0 := x1.cell (i := 0) rfl; have q1 := x1.cell (i := 1) rfl; have q2 := x1.cell (i := 2) rfl; have q3 := x1.cell (i := 3) rfl; have q4 := x1.cell (i := 4) rfl; have z0 := y1.cell (i := 0) rfl; have z1 := y1.cell (i := 1) rfl; have z2 := y1.cell (i := 2) rfl; have z3 := y1.cell (i := 3) rfl; have z4 := y1.cell (i := 4) rfl)
      have xs := (((((x1.set 0 (.string ⟨#[]⟩)).set 1 (.int .u32 0)).set 2 (.int .u64 0)).set 3 (.int .u32 0)).set 4 (.string ⟨#[]⟩))
      exact bodyPost_ret_by (rrTg rfl rfl rfl xs) rfl ⟨rfl, below_sets (below_step HT.out.2.2 hb1) (Nat.le_refl _)⟩
  | true =>
    obtain rfl : ge = 0 := hge.elim id (fun h => by cases h)
    have e1 : got V true 0 = .tuple #[.string (str V), .bool true, .int .i64 0] := by unfold got; rw [if_pos (by simp)]
    rw [e1] at HGG
    clear e1
    by_cases h0 : re = 0
    · subst h0
      have e2 : ∀ q, tgOut (.agg #[.string ⟨#[]⟩, .int .u32 0, .int .u64 0, .int .u32 0, .string ⟨#[]⟩]) q true 0 0 = .tuple #[q, .bool true, .int .i64 0] := fun q => by unfold tgOut; rw [if_neg (by simp), if_neg (by simp)]
      rw [e2]
      clear e2
      go_enter Tryz.func169, Tryz.ntmps169
      go_wp2_with (first
        | (go_at_call 80; refine HGG.out.mono ?_; rintro e w1 ⟨rfl, hb1⟩)
        | (go_at_call 170; refine (HRR.out _ (below_step HT.out.2.2 hb1)).mono ?_; rintro e w2 ⟨rfl, hb2⟩; have x0 := HT.out.1.below hb1 HT.out.1.lt; have x00 := x0.below hb2 x0.lt; have x1 := x00.alloc (.cells #[.string q.nm, .int .u32 q.most, .int .u64 q.ttl, .int .u32 q.tries, .string q.dead] 36); have f1 := x1.frozen; have q0 := x1.cell (i := 0) rfl; have q1 := x1.cell (i := 1) rfl; have q2 := x1.cell (i := 2) rfl; have q3 := x1.cell (i := 3) rfl; have q4 := x1.cell (i := 4) rfl))
      have xs := (((((x1.set 0 (.string q.nm)).set 1 (.int .u32 q.most)).set 2 (.int .u64 q.ttl)).set 3 (.int .u32 q.tries)).set 4 (.string q.dead))
      exact bodyPost_ret_by (rrTg rfl rfl rfl xs) rfl ⟨rfl, below_sets ((below_step (below_step HT.out.2.2 hb1) hb2).trans (((Below.refl _ _).alloc (Nat.le_refl _) _).mono (Nat.le_trans (below_step HT.out.2.2 hb1).size hb2.size))) (Nat.le_refl _)⟩
    · have e2 : ∀ q, tgOut (.agg #[.string ⟨#[]⟩, .int .u32 0, .int .u64 0, .int .u32 0, .string ⟨#[]⟩]) q true 0 re = .tuple #[.agg #[.string ⟨#[]⟩, .int .u32 0, .int .u64 0, .int .u32 0, .string ⟨#[]⟩], .bool false, .int .i64 re] := fun q => by unfold tgOut; rw [if_neg (by simp), if_pos h0]
      rw [e2]
      have hb : (re != 0) = true := by simpa using h0
      clear h0 e2
      go_enter Tryz.func169, Tryz.ntmps169
      go_wp2_with (first
        | (go_at_call 80; refine HGG.out.mono ?_; rintro e w1 ⟨rfl, hb1⟩)
        | (go_at_call 170; refine (HRR.out _ (below_step HT.out.2.2 hb1)).mono ?_; rintro e w2 ⟨rfl, hb2⟩; have x0 := HT.out.1.below hb1 HT.out.1.lt; have x00 := x0.below hb2 x0.lt; have x1 := x00.alloc (.cells #[.string q.nm, .int .u32 q.most, .int .u64 q.ttl, .int .u32 q.tries, .string q.dead] 36); have f1 := x1.frozen; have q0 := x1.cell (i := 0) rfl; have q1 := x1.cell (i := 1) rfl; have q2 := x1.cell (i := 2) rfl; have q3 := x1.cell (i := 3) rfl; have q4 := x1.cell (i := 4) rfl; have y0 := HT.out.2.1.below hb1 HT.out.2.1.lt; have y00 := y0.below hb2 y0.lt; have y1 := y00.alloc (.cells #[.string q.nm, .int .u32 q.most, .int .u64 q.ttl, .int .u32 q.tries, .string q.dead] 36); have z0 := y1.cell (i := 0) rfl; have z1 := y1.cell (i := 1) rfl; have z2 := y1.cell (i := 2) rfl; have z3 := y1.cell (i := 3) rfl; have z4 := y1.cell (i := 4) rfl))
      have xs := (((((x1.set 0 (.string ⟨#[]⟩)).set 1 (.int .u32 0)).set 2 (.int .u64 0)).set 3 (.int .u32 0)).set 4 (.string ⟨#[]⟩))
      exact bodyPost_ret_by (rrTg rfl rfl rfl xs) rfl ⟨rfl, below_sets ((below_step (below_step HT.out.2.2 hb1) hb2).trans (((Below.refl _ _).alloc (Nat.le_refl _) _).mono (Nat.le_trans (below_step HT.out.2.2 hb1).size hb2.size))) (Nat.le_refl _)⟩
end Go.Proofs.YtgmneapgihakgaaGreatDoor
