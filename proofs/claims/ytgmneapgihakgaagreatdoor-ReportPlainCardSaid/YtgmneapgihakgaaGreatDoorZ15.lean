/- Texts of one seat, merged. -/
import Derived.Test.YtgmneapgihakgaaGreatDoorZ06
import Derived.Test.YtgmneapgihakgaaGreatDoorZ13
import Derived.Defers
import Derived.Recover
import Derived.Test.YtgmneapgihakgaaGreatDoorZ03
set_option maxRecDepth 100000
set_option maxHeartbeats 4000000
set_option linter.unusedVariables false
/- The contracts of a versioned codec's bytes: of a queue, a message, a number. -/
namespace Go.Proofs.YtgmneapgihakgaaGreatDoor
open Go.RowKit
theorem In6.step {w w1 w2 : World} {g : Nat} {p : Addr} {y x0 x1 x2 x3 x4 : Value} (h : w1.cell? ⟨g, 0, none⟩ = some x0 ∧ w1.cell? ⟨g, 1, none⟩ = some x1 ∧ w1.cell? ⟨g, 2, none⟩ = some x2 ∧ w1.cell? ⟨g, 3, none⟩ = some x3 ∧ w1.cell? ⟨g, 4, none⟩ = some x4 ∧ w1.cell? p = some y ∧ Below g w w1) (hb : Below w1.heap.size w1 w2) :
    w2.cell? ⟨g, 0, none⟩ = some x0 ∧ w2.cell? ⟨g, 1, none⟩ = some x1 ∧ w2.cell? ⟨g, 2, none⟩ = some x2 ∧ w2.cell? ⟨g, 3, none⟩ = some x3 ∧ w2.cell? ⟨g, 4, none⟩ = some x4 ∧ w2.cell? p = some y ∧ Below g w w2 := by
  obtain ⟨h0, h1, h2, h3, h4, h5, h6⟩ := h
  have hlt := World.block_lt_of_cell? _ _ h0
  exact ⟨(hb.cell (p := ⟨g, 0, none⟩) hlt).trans h0, (hb.cell (p := ⟨g, 1, none⟩) hlt).trans h1, (hb.cell (p := ⟨g, 2, none⟩) hlt).trans h2, (hb.cell (p := ⟨g, 3, none⟩) hlt).trans h3, (hb.cell (p := ⟨g, 4, none⟩) hlt).trans h4, (hb.cell (World.block_lt_of_cell? _ _ h5)).trans h5, h6.trans (hb.mono (Nat.le_of_lt hlt))⟩
theorem In6.first (w : World) {p : Addr} {y : Value} (hp : w.cell? p = some y) (x0 x1 x2 x3 x4 : Value) (T : TypeId) :
    (w.alloc (.cells #[x0, x1, x2, x3, x4] T)).drew.cell? ⟨w.heap.size, 0, none⟩ = some x0 ∧ (w.alloc (.cells #[x0, x1, x2, x3, x4] T)).drew.cell? ⟨w.heap.size, 1, none⟩ = some x1 ∧ (w.alloc (.cells #[x0, x1, x2, x3, x4] T)).drew.cell? ⟨w.heap.size, 2, none⟩ = some x2 ∧ (w.alloc (.cells #[x0, x1, x2, x3, x4] T)).drew.cell? ⟨w.heap.size, 3, none⟩ = some x3 ∧ (w.alloc (.cells #[x0, x1, x2, x3, x4] T)).drew.cell? ⟨w.heap.size, 4, none⟩ = some x4 ∧ (w.alloc (.cells #[x0, x1, x2, x3, x4] T)).drew.cell? p = some y ∧ Below w.heap.size w (w.alloc (.cells #[x0, x1, x2, x3, x4] T)).drew :=
  ⟨by simp, by simp, by simp, by simp, by simp, (((Below.refl _ w).alloc (Nat.le_refl _) _).drew.cell (World.block_lt_of_cell? _ _ hp)).trans hp, ((Below.refl _ _).alloc (Nat.le_refl _) _).drew⟩
theorem In1.step {w w1 w2 : World} {B : Nat} {p : Addr} {y : Value} (hB : B ≤ w.heap.size) (h : w1.cell? p = some y ∧ Below B w w1) (hb : Below w1.heap.size w1 w2) : w2.cell? p = some y ∧ Below B w w2 :=
  ⟨(hb.cell (World.block_lt_of_cell? _ _ h.1)).trans h.1, h.2.trans (hb.mono (Nat.le_trans hB h.2.size))⟩
theorem In1.first (w : World) {p : Addr} {y : Value} (hp : w.cell? p = some y) : w.drew.cell? p = some y ∧ Below w.heap.size w w.drew := ⟨hp, (Below.refl _ _).drew⟩
theorem encQ_len (q : Qu) : (encQ q).length = 20 + q.dead.size := by
  unfold encQ
  simp only [List.length_append, Oc.big_length, Array.length_toList, ByteArray.size_data]
  omega
theorem encM_len (m : Ms) : (encM m).length = 16 + m.body.size := by
  unfold encM
  simp only [List.length_append, Oc.big_length, Array.length_toList, ByteArray.size_data]
  omega
theorem len_smallQ (q : Qu) (hq : q.ok) : (encQ q).length ≤ 200000 := by rw [encQ_len]; have := hq.2.2.2; omega
theorem len_smallM (m : Ms) (hm : m.ok) : (encM m).length ≤ 200000 := by rw [encM_len]; have := hm.2.2; omega
theorem len_smallU (n : Nat) (_hn : n < 18446744073709551616) : (Oc.big 8 n).length ≤ 200000 := by rw [Oc.big_length]; decide
theorem len_smallW (n : Nat) (_hn : n < 65536) : (Oc.big 2 n).length ≤ 200000 := by rw [Oc.big_length]; decide
theorem one_cons (l : List UInt8) : str (Oc.big 1 1) ++ str l = str (1 :: l) := by rw [str_append]; rfl
theorem putU_any (n : Nat) (hn : n < 18446744073709551616) (w : World) :
    Calls Tryz.prog 187 #[.int .u64 n] w fun e w' => e = .returned (.string (str (Oc.big 8 n))) ∧ Below w.heap.size w w' := eight_at n n rfl hn w
theorem putW_any (n : Nat) (hn : n < 65536) (w : World) :
    Calls Tryz.prog 253 #[.int .u16 n] w fun e w' => e = .returned (.string (str (Oc.big 2 n))) ∧ Below w.heap.size w w' := two_at n n rfl hn w
theorem below_step' {a b c : World} (h : Below a.heap.size a b) (k : Below b.heap.size b c) : Below a.heap.size a c := below_step h k
theorem below2 (w : World) (o1 o2 : Obj) : Below w.heap.size w ((w.alloc o1).alloc o2) :=
  below_step ((Below.refl _ _).alloc (Nat.le_refl _) _) ((Below.refl _ _).alloc (Nat.le_refl _) _)
theorem size1 (w : World) (o : Obj) : (w.alloc o).heap.size = w.heap.size + 1 := by simp
theorem lt2 (w : World) (o1 o2 : Obj) : w.heap.size + 1 < ((w.alloc o1).alloc o2).heap.size := by simp
theorem cell2 (w : World) (o1 : Obj) (x : Value) (T : TypeId) : ((w.alloc o1).alloc (.cells #[x] T)).cell? ⟨w.heap.size + 1, 0, none⟩ = some x := by
  have := World.cell?_alloc_new (w.alloc o1) #[x] T 0
  rw [size1] at this
  exact this
theorem vputQ_any (q : Qu) (hq : q.ok) (a : Nat) (w : World) (ha : w.cell? ⟨a, 0, none⟩ = some (.func (.func 185) #[] #[])) :
    Calls Tryz.prog 257 #[aggQ q, .pointer (some ⟨a, 0, none⟩)] w fun e w' => e = .returned (.string (str (1 :: encQ q))) ∧ Below w.heap.size w w' := by
  have hz := big_size
  obtain ⟨k, hzs, hk⟩ : ∃ k, (str (encQ q)).size = k ∧ k ≤ 200000 := ⟨_, rfl, by rw [str_size]; exact len_smallQ q hq⟩
  have hq1 : ¬ 9223372036854775807 < 1 + k := by omega
  have HO := Lib.hid (fun W => one_at 1 1 rfl (by decide) W)
  have HP := Lib.hid (fun W => putQ_any q hq W)
  have H := Lib.hid (one_cons (encQ q))
  have HA := Lib.hid ha
  clear ha
  revert hzs HP H
  generalize encQ q = ex
  intro hzs HP H
  unfold aggQ at HP ⊢
  go_enter Tryz.func257, Tryz.ntmps257
  go_wp2_with fail
  go_region_held3 (fun w' => w'.cell? ⟨w.heap.size, 0, none⟩ = some (.string q.nm) ∧ w'.cell? ⟨w.heap.size, 1, none⟩ = some (.int .u32 q.most) ∧ w'.cell? ⟨w.heap.size, 2, none⟩ = some (.int .u64 q.ttl) ∧ w'.cell? ⟨w.heap.size, 3, none⟩ = some (.int .u32 q.tries) ∧ w'.cell? ⟨w.heap.size, 4, none⟩ = some (.string q.dead) ∧ w'.cell? ⟨a, 0, none⟩ = some (.func (.func 185) #[] #[]) ∧ Below w.heap.size w w')
    ((first | assumption | exact In6.step ‹_› hb | exact In6.first _ HA.out _ _ _ _ _ _))
    (first
    | (go_at_call 258; refine (HO.out _).mono ?_; rintro e w1 ⟨rfl, hb⟩)
    | (go_at_call 185; refine (HP.out _).mono ?_; rintro e w1 ⟨rfl, hb⟩))
  rename_i hS
  have hB := hS.2.2.2.2.2.2
  go_wp2
  go_ret
  exact ⟨ret_string H.out, hB⟩
theorem idleBQ (p : Addr) (w : World) :
    CallsD Tryz.prog 194 #[.pointer (some p)] .returning w fun e u' w' => e = .returned (.tuple #[]) ∧ u' = .returning ∧ w' = w := by
  refine callsD_of_wpS Tryz.func194 rfl fun c₀ cs hu => ?_
  apply wpS_seq
  apply wpS_region
  simp [wpOpsS, go_sem, recoverD, hu, Tryz.ntmps194, Exit.thenS]
  refine wpS_cond (t := false) (by simp [Act.eval, Array.replicate]) ?_
  simp only [Bool.false_eq_true, if_false]
  refine wpS_of_wp (wp_skip ?_)
  cases c₀
  simp_all [bodyPostS, results, Tryz.results194]
theorem bytesQ_any (q : Qu) (hq : q.ok) (a : Nat) (gv : Value) (w : World) (ha : w.cell? ⟨a, 0, none⟩ = some (.func (.func 185) #[] #[])) :
    Calls Tryz.prog 90 #[.agg #[.func (.func 257) #[] #[.pointer (some ⟨a, 0, none⟩)], gv], aggQ q] w fun e w' => e = .returned (.string (str (1 :: encQ q))) ∧ Below w.heap.size w w' := by
  have hmf : ∀ (fn : Fn) (first cap : Array Value) (w : World), (Instr.makeFunc fn first cap).run Tryz.prog w = .ok (.func fn first cap) w := fun _ _ _ _ => rfl
  have heq : ∀ w, (binOp .eql 110 (.func (.func 257) #[] #[.pointer (some ⟨a, 0, none⟩)]) .nilFunc).run Tryz.prog w = .ok (.bool false) w := fun w => by kernel_rfl
  have HP : Hid (∀ W, Below w.heap.size w W → Calls Tryz.prog 257 #[aggQ q, .pointer (some ⟨a, 0, none⟩)] W fun e w' => e = .returned (.string (str (1 :: encQ q))) ∧ Below W.heap.size W w') := fun W hW => vputQ_any q hq a W ((hW.cell (World.block_lt_of_cell? _ _ ha)).trans ha)
  generalize str (1 :: encQ q) = ex at HP ⊢
  clear ha
  unfold aggQ at HP ⊢
  go_enter_defers Tryz.func90, Tryz.ntmps90
  go_wp2_with (go_at_call 257; refine (HP.out _ (below3 w _ _ _)).mono ?_; rintro e w1 ⟨rfl, hb⟩; have hc := hb.cell (p := ⟨w.heap.size + 1 + 1, 0, none⟩) (lt3 w _ _ _); have hz := hb.frozen (p := ⟨w.heap.size + 1 + 1, 0, none⟩) (lt3 w _ _ _))
  have hcs : (w1.setCell ⟨w.heap.size + 1 + 1, 0, none⟩ (.string ex)).cell? ⟨w.heap.size + 1 + 1, 0, none⟩ = some (.string ex) := World.cell?_setCell_same _ _ _ (u := .string ⟨#[]⟩) (hc.trans (cell3 w _ _ _ 9))
  refine leaves_cons (f := 194) (args := #[.pointer (some ⟨w.heap.size + 1 + 1, 0, none⟩)]) (by simp) (by simp [go_sem]) ?_
  refine (idleBQ ⟨w.heap.size + 1 + 1, 0, none⟩ _).mono ?_
  rintro e u' w'' ⟨rfl, rfl, rfl⟩
  simp [Leaves, settle, results, Tryz.results90, go_sem, hcs]
  exact below_step' (below3 w _ _ _) hb |>.setCell (show w.heap.size ≤ w.heap.size + 1 + 1 by omega) _
theorem vputM_any (m : Ms) (hm : m.ok) (a : Nat) (w : World) (ha : w.cell? ⟨a, 0, none⟩ = some (.func (.func 262) #[] #[])) :
    Calls Tryz.prog 302 #[aggM m, .pointer (some ⟨a, 0, none⟩)] w fun e w' => e = .returned (.string (str (1 :: encM m))) ∧ Below w.heap.size w w' := by
  have hz := big_size
  obtain ⟨k, hzs, hk⟩ : ∃ k, (str (encM m)).size = k ∧ k ≤ 200000 := ⟨_, rfl, by rw [str_size]; exact len_smallM m hm⟩
  have hq1 : ¬ 9223372036854775807 < 1 + k := by omega
  have HO := Lib.hid (fun W => one_at 1 1 rfl (by decide) W)
  have HP := Lib.hid (fun W => putM_any m hm W)
  have H := Lib.hid (one_cons (encM m))
  have HA := Lib.hid ha
  clear ha
  revert hzs HP H
  generalize encM m = ex
  intro hzs HP H
  unfold aggM at HP ⊢
  go_enter Tryz.func302, Tryz.ntmps302
  go_wp2_with fail
  go_region_held3 (fun w' => w'.cell? ⟨w.heap.size, 0, none⟩ = some (.string m.qu) ∧ w'.cell? ⟨w.heap.size, 1, none⟩ = some (.int .u64 m.id) ∧ w'.cell? ⟨w.heap.size, 2, none⟩ = some (.int .u32 m.tries) ∧ w'.cell? ⟨w.heap.size, 3, none⟩ = some (.int .u64 m.expiry) ∧ w'.cell? ⟨w.heap.size, 4, none⟩ = some (.string m.body) ∧ w'.cell? ⟨a, 0, none⟩ = some (.func (.func 262) #[] #[]) ∧ Below w.heap.size w w')
    ((first | assumption | exact In6.step ‹_› hb | exact In6.first _ HA.out _ _ _ _ _ _))
    (first
    | (go_at_call 258; refine (HO.out _).mono ?_; rintro e w1 ⟨rfl, hb⟩)
    | (go_at_call 262; refine (HP.out _).mono ?_; rintro e w1 ⟨rfl, hb⟩))
  rename_i hS
  have hB := hS.2.2.2.2.2.2
  go_wp2
  go_ret
  exact ⟨ret_string H.out, hB⟩
theorem idleBM (p : Addr) (w : World) :
    CallsD Tryz.prog 269 #[.pointer (some p)] .returning w fun e u' w' => e = .returned (.tuple #[]) ∧ u' = .returning ∧ w' = w := by
  refine callsD_of_wpS Tryz.func269 rfl fun c₀ cs hu => ?_
  apply wpS_seq
  apply wpS_region
  simp [wpOpsS, go_sem, recoverD, hu, Tryz.ntmps269, Exit.thenS]
  refine wpS_cond (t := false) (by simp [Act.eval, Array.replicate]) ?_
  simp only [Bool.false_eq_true, if_false]
  refine wpS_of_wp (wp_skip ?_)
  cases c₀
  simp_all [bodyPostS, results, Tryz.results269]
theorem bytesM_any (m : Ms) (hm : m.ok) (a : Nat) (gv : Value) (w : World) (ha : w.cell? ⟨a, 0, none⟩ = some (.func (.func 262) #[] #[])) :
    Calls Tryz.prog 217 #[.agg #[.func (.func 302) #[] #[.pointer (some ⟨a, 0, none⟩)], gv], aggM m] w fun e w' => e = .returned (.string (str (1 :: encM m))) ∧ Below w.heap.size w w' := by
  have hmf : ∀ (fn : Fn) (first cap : Array Value) (w : World), (Instr.makeFunc fn first cap).run Tryz.prog w = .ok (.func fn first cap) w := fun _ _ _ _ => rfl
  have heq : ∀ w, (binOp .eql 111 (.func (.func 302) #[] #[.pointer (some ⟨a, 0, none⟩)]) .nilFunc).run Tryz.prog w = .ok (.bool false) w := fun w => by kernel_rfl
  have HP : Hid (∀ W, Below w.heap.size w W → Calls Tryz.prog 302 #[aggM m, .pointer (some ⟨a, 0, none⟩)] W fun e w' => e = .returned (.string (str (1 :: encM m))) ∧ Below W.heap.size W w') := fun W hW => vputM_any m hm a W ((hW.cell (World.block_lt_of_cell? _ _ ha)).trans ha)
  generalize str (1 :: encM m) = ex at HP ⊢
  clear ha
  unfold aggM at HP ⊢
  go_enter_defers Tryz.func217, Tryz.ntmps217
  go_wp2_with (go_at_call 302; refine (HP.out _ (below3 w _ _ _)).mono ?_; rintro e w1 ⟨rfl, hb⟩; have hc := hb.cell (p := ⟨w.heap.size + 1 + 1, 0, none⟩) (lt3 w _ _ _); have hz := hb.frozen (p := ⟨w.heap.size + 1 + 1, 0, none⟩) (lt3 w _ _ _))
  have hcs : (w1.setCell ⟨w.heap.size + 1 + 1, 0, none⟩ (.string ex)).cell? ⟨w.heap.size + 1 + 1, 0, none⟩ = some (.string ex) := World.cell?_setCell_same _ _ _ (u := .string ⟨#[]⟩) (hc.trans (cell3 w _ _ _ 9))
  refine leaves_cons (f := 269) (args := #[.pointer (some ⟨w.heap.size + 1 + 1, 0, none⟩)]) (by simp) (by simp [go_sem]) ?_
  refine (idleBM ⟨w.heap.size + 1 + 1, 0, none⟩ _).mono ?_
  rintro e u' w'' ⟨rfl, rfl, rfl⟩
  simp [Leaves, settle, results, Tryz.results217, go_sem, hcs]
  exact below_step' (below3 w _ _ _) hb |>.setCell (show w.heap.size ≤ w.heap.size + 1 + 1 by omega) _
theorem vputU_any (n : Nat) (hn : n < 18446744073709551616) (a : Nat) (w : World) (ha : w.cell? ⟨a, 0, none⟩ = some (.func (.func 187) #[] #[])) :
    Calls Tryz.prog 292 #[.int .u64 n, .pointer (some ⟨a, 0, none⟩)] w fun e w' => e = .returned (.string (str (1 :: Oc.big 8 n))) ∧ Below w.heap.size w w' := by
  have hz := big_size
  obtain ⟨k, hzs, hk⟩ : ∃ k, (str (Oc.big 8 n)).size = k ∧ k ≤ 200000 := ⟨_, rfl, by rw [str_size]; exact len_smallU n hn⟩
  have hq1 : ¬ 9223372036854775807 < 1 + k := by omega
  have HO := Lib.hid (fun W => one_at 1 1 rfl (by decide) W)
  have HP := Lib.hid (fun W => putU_any n hn W)
  have H := Lib.hid (one_cons (Oc.big 8 n))
  have HA := Lib.hid ha
  clear ha
  revert hzs HP H
  generalize Oc.big 8 n = ex
  intro hzs HP H
  go_enter Tryz.func292, Tryz.ntmps292
  go_wp2_with fail
  go_region_held3 (fun w' => w'.cell? ⟨a, 0, none⟩ = some (.func (.func 187) #[] #[]) ∧ Below w.heap.size w w')
    ((first | assumption | exact In1.step (Nat.le_refl _) ‹_› hb | exact In1.first _ HA.out))
    (first
    | (go_at_call 258; refine (HO.out _).mono ?_; rintro e w1 ⟨rfl, hb⟩)
    | (go_at_call 187; refine (HP.out _).mono ?_; rintro e w1 ⟨rfl, hb⟩))
  rename_i hS
  have hB := hS.2
  go_wp2
  go_ret
  exact ⟨ret_string H.out, hB⟩
theorem idleBU (p : Addr) (w : World) :
    CallsD Tryz.prog 239 #[.pointer (some p)] .returning w fun e u' w' => e = .returned (.tuple #[]) ∧ u' = .returning ∧ w' = w := by
  refine callsD_of_wpS Tryz.func239 rfl fun c₀ cs hu => ?_
  apply wpS_seq
  apply wpS_region
  simp [wpOpsS, go_sem, recoverD, hu, Tryz.ntmps239, Exit.thenS]
  refine wpS_cond (t := false) (by simp [Act.eval, Array.replicate]) ?_
  simp only [Bool.false_eq_true, if_false]
  refine wpS_of_wp (wp_skip ?_)
  cases c₀
  simp_all [bodyPostS, results, Tryz.results239]
theorem bytesU_any (n : Nat) (hn : n < 18446744073709551616) (a : Nat) (gv : Value) (w : World) (ha : w.cell? ⟨a, 0, none⟩ = some (.func (.func 187) #[] #[])) :
    Calls Tryz.prog 163 #[.agg #[.func (.func 292) #[] #[.pointer (some ⟨a, 0, none⟩)], gv], .int .u64 n] w fun e w' => e = .returned (.string (str (1 :: Oc.big 8 n))) ∧ Below w.heap.size w w' := by
  have hmf : ∀ (fn : Fn) (first cap : Array Value) (w : World), (Instr.makeFunc fn first cap).run Tryz.prog w = .ok (.func fn first cap) w := fun _ _ _ _ => rfl
  have heq : ∀ w, (binOp .eql 225 (.func (.func 292) #[] #[.pointer (some ⟨a, 0, none⟩)]) .nilFunc).run Tryz.prog w = .ok (.bool false) w := fun w => by kernel_rfl
  have HP : Hid (∀ W, Below w.heap.size w W → Calls Tryz.prog 292 #[.int .u64 n, .pointer (some ⟨a, 0, none⟩)] W fun e w' => e = .returned (.string (str (1 :: Oc.big 8 n))) ∧ Below W.heap.size W w') := fun W hW => vputU_any n hn a W ((hW.cell (World.block_lt_of_cell? _ _ ha)).trans ha)
  generalize str (1 :: Oc.big 8 n) = ex at HP ⊢
  clear ha
  go_enter_defers Tryz.func163, Tryz.ntmps163
  go_wp2_with (go_at_call 292; refine (HP.out _ (below2 w _ _)).mono ?_; rintro e w1 ⟨rfl, hb⟩; have hc := hb.cell (p := ⟨w.heap.size + 1, 0, none⟩) (lt2 w _ _); have hz := hb.frozen (p := ⟨w.heap.size + 1, 0, none⟩) (lt2 w _ _))
  have hcs : (w1.setCell ⟨w.heap.size + 1, 0, none⟩ (.string ex)).cell? ⟨w.heap.size + 1, 0, none⟩ = some (.string ex) := World.cell?_setCell_same _ _ _ (u := .string ⟨#[]⟩) (hc.trans (cell2 w _ _ 9))
  refine leaves_cons (f := 239) (args := #[.pointer (some ⟨w.heap.size + 1, 0, none⟩)]) (by simp) (by simp [go_sem]) ?_
  refine (idleBU ⟨w.heap.size + 1, 0, none⟩ _).mono ?_
  rintro e u' w'' ⟨rfl, rfl, rfl⟩
  simp [Leaves, settle, results, Tryz.results163, go_sem, hcs]
  exact below_step' (below2 w _ _) hb |>.setCell (show w.heap.size ≤ w.heap.size + 1 by omega) _
end Go.Proofs.YtgmneapgihakgaaGreatDoor
/- What a reader takes of bytes laid one behind the other. -/
namespace Go.Proofs.YtgmneapgihakgaaGreatDoor
open Go.RowKit
theorem str_extract (l m : List UInt8) : (str (l ++ m)).extract 0 l.length = str l := by
  apply ByteArray.ext
  simp [str]
theorem str_extract' (l m : List UInt8) : (str (l ++ m)).extract l.length (str (l ++ m)).size = str m := by
  rw [str_size, List.length_append]
  apply ByteArray.ext
  simp [str]
theorem tk_str (l m : List UInt8) (k : Nat) (h : l.length = k) : tk (str (l ++ m)) 0 k = (str l, str m, 0) := by
  subst h
  rw [tk_ok _ _ (by rw [str_size, List.length_append]; omega), str_extract, str_extract']
theorem txt_str (l m : List UInt8) (most : Nat) (h : l.length < 4294967296) (hm : l.length ≤ most) : txt (str (Oc.big 4 l.length ++ (l ++ m))) 0 most = (str l, str m, 0) := by
  rw [txt_eq]
  have h4 : tk (str (Oc.big 4 l.length ++ (l ++ m))) 0 4 = (str (Oc.big 4 l.length), str (l ++ m), 0) := tk_str _ _ 4 (Oc.big_length _ _)
  rw [h4, str_data, Oc.val_big 4 _ h, if_neg (by rw [if_pos (by omega)]; omega)]
  exact tk_str l m l.length rfl
end Go.Proofs.YtgmneapgihakgaaGreatDoor
/- The contracts of what reads a queue and a message. -/
namespace Go.Proofs.YtgmneapgihakgaaGreatDoor
open Go.RowKit
theorem Mod.drew {b : Nat} {u v : World} (h : Mod b u v) : Mod b u v.drew := ⟨h.os, h.tape, h.output, h.size, h.block⟩
theorem stored5 {w : World} {g : Nat} {x0 x1 x2 x3 x4 v0 v1 v2 v3 v4 : Value} (k0 : w.cell? ⟨g, 0, none⟩ = some x0) (k1 : w.cell? ⟨g, 1, none⟩ = some x1) (k2 : w.cell? ⟨g, 2, none⟩ = some x2) (k3 : w.cell? ⟨g, 3, none⟩ = some x3) (k4 : w.cell? ⟨g, 4, none⟩ = some x4) :
    (((((w.setCell ⟨g, 0, none⟩ v0).setCell ⟨g, 1, none⟩ v1).setCell ⟨g, 2, none⟩ v2).setCell ⟨g, 3, none⟩ v3).setCell ⟨g, 4, none⟩ v4).cell? ⟨g, 0, none⟩ = some v0 ∧
    (((((w.setCell ⟨g, 0, none⟩ v0).setCell ⟨g, 1, none⟩ v1).setCell ⟨g, 2, none⟩ v2).setCell ⟨g, 3, none⟩ v3).setCell ⟨g, 4, none⟩ v4).cell? ⟨g, 1, none⟩ = some v1 ∧
    (((((w.setCell ⟨g, 0, none⟩ v0).setCell ⟨g, 1, none⟩ v1).setCell ⟨g, 2, none⟩ v2).setCell ⟨g, 3, none⟩ v3).setCell ⟨g, 4, none⟩ v4).cell? ⟨g, 2, none⟩ = some v2 ∧
    (((((w.setCell ⟨g, 0, none⟩ v0).setCell ⟨g, 1, none⟩ v1).setCell ⟨g, 2, none⟩ v2).setCell ⟨g, 3, none⟩ v3).setCell ⟨g, 4, none⟩ v4).cell? ⟨g, 3, none⟩ = some v3 ∧
    (((((w.setCell ⟨g, 0, none⟩ v0).setCell ⟨g, 1, none⟩ v1).setCell ⟨g, 2, none⟩ v2).setCell ⟨g, 3, none⟩ v3).setCell ⟨g, 4, none⟩ v4).cell? ⟨g, 4, none⟩ = some v4 := by
  have ne : ∀ i j : Nat, i ≠ j → (⟨g, i, none⟩ : Addr) ≠ ⟨g, j, none⟩ := fun i j h e => h (by cases e; rfl)
  have o : ∀ (W : World) (i j : Nat) (v : Value), i ≠ j → (W.setCell ⟨g, j, none⟩ v).cell? ⟨g, i, none⟩ = W.cell? ⟨g, i, none⟩ := fun W i j v h => World.cell?_setCell_other _ _ _ _ (ne j i (Ne.symm h))
  have s : ∀ (W : World) (i : Nat) (v : Value), (W.cell? ⟨g, i, none⟩).isSome → (W.setCell ⟨g, i, none⟩ v).cell? ⟨g, i, none⟩ = some v := fun W i v h => World.cell?_setCell_same' _ _ _ h
  refine ⟨?_, ?_, ?_, ?_, ?_⟩
  · rw [o _ 0 4 _ (by decide), o _ 0 3 _ (by decide), o _ 0 2 _ (by decide), o _ 0 1 _ (by decide), s _ 0 _ (by rw [k0]; rfl)]
  · rw [o _ 1 4 _ (by decide), o _ 1 3 _ (by decide), o _ 1 2 _ (by decide), s _ 1 _ (by rw [o _ 1 0 _ (by decide), k1]; rfl)]
  · rw [o _ 2 4 _ (by decide), o _ 2 3 _ (by decide), s _ 2 _ (by rw [o _ 2 1 _ (by decide), o _ 2 0 _ (by decide), k2]; rfl)]
  · rw [o _ 3 4 _ (by decide), s _ 3 _ (by rw [o _ 3 2 _ (by decide), o _ 3 1 _ (by decide), o _ 3 0 _ (by decide), k3]; rfl)]
  · rw [s _ 4 _ (by rw [o _ 4 3 _ (by decide), o _ 4 2 _ (by decide), o _ 4 1 _ (by decide), o _ 4 0 _ (by decide), k4]; rfl)]
theorem stored5_below {w : World} {g B : Nat} {v0 v1 v2 v3 v4 : Value} (hB : B ≤ g) : Below B w (((((w.setCell ⟨g, 0, none⟩ v0).setCell ⟨g, 1, none⟩ v1).setCell ⟨g, 2, none⟩ v2).setCell ⟨g, 3, none⟩ v3).setCell ⟨g, 4, none⟩ v4) :=
  (((((Below.refl B w).setCell (p := ⟨g, 0, none⟩) hB _).setCell (p := ⟨g, 1, none⟩) hB _).setCell (p := ⟨g, 2, none⟩) hB _).setCell (p := ⟨g, 3, none⟩) hB _).setCell (p := ⟨g, 4, none⟩) hB _
/-- A box of five cells that was laid as the last one, behind what has turned another block alone. -/
theorem blk5 {w w' : World} {b : Nat} {x0 x1 x2 x3 x4 : Value} {T : TypeId} (hm : Mod b (w.alloc (.cells #[x0, x1, x2, x3, x4] T)) w') (hne : w.heap.size ≠ b) :
    (w'.cell? ⟨w.heap.size, 0, none⟩ = some x0 ∧ w'.cell? ⟨w.heap.size, 1, none⟩ = some x1 ∧ w'.cell? ⟨w.heap.size, 2, none⟩ = some x2 ∧ w'.cell? ⟨w.heap.size, 3, none⟩ = some x3 ∧ w'.cell? ⟨w.heap.size, 4, none⟩ = some x4) ∧
      (w'.frozen? ⟨w.heap.size, 0, none⟩ = false ∧ w'.frozen? ⟨w.heap.size, 1, none⟩ = false ∧ w'.frozen? ⟨w.heap.size, 2, none⟩ = false ∧ w'.frozen? ⟨w.heap.size, 3, none⟩ = false ∧ w'.frozen? ⟨w.heap.size, 4, none⟩ = false) := by
  have hl : w.heap.size < (w.alloc (.cells #[x0, x1, x2, x3, x4] T)).heap.size := by simp
  refine ⟨⟨?_, ?_, ?_, ?_, ?_⟩, ?_, ?_, ?_, ?_, ?_⟩
  · rw [hm.cell (p := ⟨w.heap.size, 0, none⟩) hl hne]; simp
  · rw [hm.cell (p := ⟨w.heap.size, 1, none⟩) hl hne]; simp
  · rw [hm.cell (p := ⟨w.heap.size, 2, none⟩) hl hne]; simp
  · rw [hm.cell (p := ⟨w.heap.size, 3, none⟩) hl hne]; simp
  · rw [hm.cell (p := ⟨w.heap.size, 4, none⟩) hl hne]; simp
  · rw [hm.frozen (p := ⟨w.heap.size, 0, none⟩) hl hne]; simp
  · rw [hm.frozen (p := ⟨w.heap.size, 1, none⟩) hl hne]; simp
  · rw [hm.frozen (p := ⟨w.heap.size, 2, none⟩) hl hne]; simp
  · rw [hm.frozen (p := ⟨w.heap.size, 3, none⟩) hl hne]; simp
  · rw [hm.frozen (p := ⟨w.heap.size, 4, none⟩) hl hne]; simp
def getQ (nm : ByteArray) (s : ByteArray) (e : Int) : Qu × ByteArray × Int :=
  let A := tk s e 4
  let B := tk A.2.1 A.2.2 8
  let C := tk B.2.1 B.2.2 4
  let D := txt C.2.1 C.2.2 32
  (⟨nm, Oc.val A.1.data.toList, Oc.val B.1.data.toList, Oc.val C.1.data.toList, D.1⟩, D.2.1, D.2.2)
def getM (qu : ByteArray) (id : Nat) (s : ByteArray) (e : Int) : Ms × ByteArray × Int :=
  let A := tk s e 4
  let B := tk A.2.1 A.2.2 8
  let D := txt B.2.1 B.2.2 32768
  (⟨qu, id, Oc.val A.1.data.toList, Oc.val B.1.data.toList, D.1⟩, D.2.1, D.2.2)
theorem rcQ {w : World} {g : Nat} {nm s : ByteArray} {a b c : Int} {tmps : Array Value} (ht : tmps[3]? = some (.pointer (some ⟨g, 0, none⟩)))
    (h0 : w.cell? ⟨g, 0, none⟩ = some (.string nm)) (h1 : w.cell? ⟨g, 1, none⟩ = some (.int .u32 a)) (h2 : w.cell? ⟨g, 2, none⟩ = some (.int .u64 b)) (h3 : w.cell? ⟨g, 3, none⟩ = some (.int .u32 c)) (h4 : w.cell? ⟨g, 4, none⟩ = some (.string s)) :
    (results Tryz.f189 tmps).run Tryz.prog w = .ok (.agg #[.string nm, .int .u32 a, .int .u64 b, .int .u32 c, .string s]) w := by
  simp [results, Tryz.results189, go_sem, ht, h0, h1, h2, h3, h4]
theorem rcM {w : World} {g : Nat} {nm s : ByteArray} {i a b : Int} {tmps : Array Value} (ht : tmps[4]? = some (.pointer (some ⟨g, 0, none⟩)))
    (h0 : w.cell? ⟨g, 0, none⟩ = some (.string nm)) (h1 : w.cell? ⟨g, 1, none⟩ = some (.int .u64 i)) (h2 : w.cell? ⟨g, 2, none⟩ = some (.int .u32 a)) (h3 : w.cell? ⟨g, 3, none⟩ = some (.int .u64 b)) (h4 : w.cell? ⟨g, 4, none⟩ = some (.string s)) :
    (results Tryz.f263 tmps).run Tryz.prog w = .ok (.agg #[.string nm, .int .u64 i, .int .u32 a, .int .u64 b, .string s]) w := by
  simp [results, Tryz.results263, go_sem, ht, h0, h1, h2, h3, h4]
theorem Mod.cellU {b : Nat} {u w1 w2 : World} {p : Addr} {x : Value} (hu : Upd b w1 w2) (h : w1.cell? p = some x) (hne : p.block ≠ b) : w2.cell? p = some x :=
  (World.cell?_of_block (w := w1) (hu.block p.block hne)).trans h
theorem cell_alloc {w : World} {o : Obj} {p : Addr} {x : Value} (h : w.cell? p = some x) : (w.alloc o).cell? p = some x :=
  (World.cell?_alloc_old w o p (Nat.ne_of_lt (World.block_lt_of_cell? _ _ h))).trans h
set_option maxHeartbeats 4000000 in
theorem getFnQ_any (b n : Nat) (nm s : ByteArray) (e : Int) (w : World) (h : Rd w b s e) (hn : w.cell? ⟨n, 0, none⟩ = some (.string nm)) (hnb : n ≠ b) :
    Calls Tryz.prog 189 #[.pointer (some ⟨b, 0, none⟩), .pointer (some ⟨n, 0, none⟩)] w fun x w' => x = .returned (aggQ (getQ nm s e).1) ∧ Rd w' b (getQ nm s e).2.1 (getQ nm s e).2.2 ∧ Mod b w w' := by
  have HLT := Lib.hid h.lt
  have HNE : Hid (w.heap.size ≠ b) := fun he => by have := HLT.out; omega
  have HR := Lib.hid (h.alloc (.cells #[.string ⟨#[]⟩, .int .u32 0, .int .u64 0, .int .u32 0, .string ⟨#[]⟩] 36))
  have HM0 := Lib.hid ((Mod.refl b (w.alloc (.cells #[.string ⟨#[]⟩, .int .u32 0, .int .u64 0, .int .u32 0, .string ⟨#[]⟩] 36))))
  have n0 : (w.alloc (.cells #[.string ⟨#[]⟩, .int .u32 0, .int .u64 0, .int .u32 0, .string ⟨#[]⟩] 36)).cell? ⟨n, 0, none⟩ = some (.string nm) := cell_alloc hn
  have HNB : Hid (n ≠ b) := hnb
  clear h hn hnb
  unfold getQ
  simp only
  have HA := Lib.hid (fun W (hW : Rd W b s e) => four_rd b s e W hW)
  revert HA
  generalize tk s e 4 = A
  intro HA
  have HB := Lib.hid (fun W (hW : Rd W b A.2.1 A.2.2) => eight_rd b A.2.1 A.2.2 W hW)
  revert HB
  generalize tk A.2.1 A.2.2 8 = B
  intro HB
  have HC := Lib.hid (fun W (hW : Rd W b B.2.1 B.2.2) => four_rd b B.2.1 B.2.2 W hW)
  revert HC
  generalize tk B.2.1 B.2.2 4 = C
  intro HC
  have HD := Lib.hid (fun W (hW : Rd W b C.2.1 C.2.2) => text_rd b C.2.1 C.2.2 32 (by decide) W hW)
  revert HD
  generalize txt C.2.1 C.2.2 32 = D
  intro HD
  go_enter Tryz.func189, Tryz.ntmps189
  go_wp2_with fail
  go_region_with (first
    | (go_at_call 192; refine (HD.out _ hr3).mono ?_; rintro x w4 ⟨rfl, hr4, hu4⟩; have n4 := Mod.cellU (u := w) hu4 n3 HNB.out; have hm4 := Lib.hid (hm3.out.upd hu4); obtain ⟨⟨k0, k1, k2, k3, k4⟩, f0, f1, f2, f3, f4⟩ := blk5 hm4.out HNE.out)
    | (go_at_call 190; refine (HC.out _ hr2).mono ?_; rintro x w3 ⟨rfl, hr3, hu3⟩; have n3 := Mod.cellU (u := w) hu3 n2 HNB.out; have hm3 := Lib.hid (hm2.out.upd hu3))
    | (go_at_call 191; refine (HB.out _ hr1).mono ?_; rintro x w2 ⟨rfl, hr2, hu2⟩; have n2 := Mod.cellU (u := w) hu2 n1 HNB.out; have hm2 := Lib.hid (hm1.out.upd hu2))
    | (go_at_call 190; refine (HA.out _ HR.out.drew).mono ?_; rintro x w1 ⟨rfl, hr1, hu1⟩; have n1 := Mod.cellU (u := w) hu1 n0 HNB.out; have hm1 := Lib.hid (HM0.out.drew.upd hu1)))
  all_goals
    (obtain ⟨s0, s1, s2, s3, s4⟩ := stored5 (v0 := .string nm) (v1 := .int .u32 (Oc.val A.1.data.toList : Nat)) (v2 := .int .u64 (Oc.val B.1.data.toList : Nat)) (v3 := .int .u32 (Oc.val C.1.data.toList : Nat)) (v4 := .string D.1) k0 k1 k2 k3 k4
     have hbe := stored5_below (w := w4) (v0 := .string nm) (v1 := .int .u32 (Oc.val A.1.data.toList : Nat)) (v2 := .int .u64 (Oc.val B.1.data.toList : Nat)) (v3 := .int .u32 (Oc.val C.1.data.toList : Nat)) (v4 := .string D.1) (Nat.le_refl w.heap.size)
     go_wp2
     exact bodyPost_ret_by (rcQ rfl s0 s1 s2 s3 s4) rfl ⟨rfl, hr4.below' hbe HLT.out, hm4.out.old.step' hbe⟩)
end Go.Proofs.YtgmneapgihakgaaGreatDoor
/- The contract of what reads a message. -/
namespace Go.Proofs.YtgmneapgihakgaaGreatDoor
open Go.RowKit
set_option maxHeartbeats 4000000 in
theorem getFnM_any (b n c : Nat) (nm s : ByteArray) (i : Nat) (e : Int) (w : World) (h : Rd w b s e) (hn : w.cell? ⟨n, 0, none⟩ = some (.string nm)) (hnb : n ≠ b) (hc : w.cell? ⟨c, 0, none⟩ = some (.int .u64 i)) (hcb : c ≠ b) :
    Calls Tryz.prog 263 #[.pointer (some ⟨b, 0, none⟩), .pointer (some ⟨n, 0, none⟩), .pointer (some ⟨c, 0, none⟩)] w fun x w' => x = .returned (aggM (getM nm i s e).1) ∧ Rd w' b (getM nm i s e).2.1 (getM nm i s e).2.2 ∧ Mod b w w' := by
  have HLT := Lib.hid h.lt
  have HNE : Hid (w.heap.size ≠ b) := fun he => by have := HLT.out; omega
  have HR := Lib.hid (h.alloc (.cells #[.string ⟨#[]⟩, .int .u64 0, .int .u32 0, .int .u64 0, .string ⟨#[]⟩] 62))
  have HM0 := Lib.hid ((Mod.refl b (w.alloc (.cells #[.string ⟨#[]⟩, .int .u64 0, .int .u32 0, .int .u64 0, .string ⟨#[]⟩] 62))))
  have n0 : (w.alloc (.cells #[.string ⟨#[]⟩, .int .u64 0, .int .u32 0, .int .u64 0, .string ⟨#[]⟩] 62)).cell? ⟨n, 0, none⟩ = some (.string nm) := cell_alloc hn
  have c0 : (w.alloc (.cells #[.string ⟨#[]⟩, .int .u64 0, .int .u32 0, .int .u64 0, .string ⟨#[]⟩] 62)).cell? ⟨c, 0, none⟩ = some (.int .u64 i) := cell_alloc hc
  have HCB : Hid (c ≠ b) := hcb
  have HNB : Hid (n ≠ b) := hnb
  clear h hn hnb hc hcb
  unfold getM
  simp only
  have HA := Lib.hid (fun W (hW : Rd W b s e) => four_rd b s e W hW)
  revert HA
  generalize tk s e 4 = A
  intro HA
  have HB := Lib.hid (fun W (hW : Rd W b A.2.1 A.2.2) => eight_rd b A.2.1 A.2.2 W hW)
  revert HB
  generalize tk A.2.1 A.2.2 8 = B
  intro HB
  have HD := Lib.hid (fun W (hW : Rd W b B.2.1 B.2.2) => text_rd b B.2.1 B.2.2 32768 (by decide) W hW)
  revert HD
  generalize txt B.2.1 B.2.2 32768 = D
  intro HD
  go_enter Tryz.func263, Tryz.ntmps263
  go_wp2_with fail
  go_region_with (first
    | (go_at_call 192; refine (HD.out _ hr2).mono ?_; rintro x w4 ⟨rfl, hr4, hu4⟩; have n4 := Mod.cellU (u := w) hu4 n2 HNB.out; have c4 := Mod.cellU (u := w) hu4 c2 HCB.out; have hm4 := Lib.hid (hm2.out.upd hu4); obtain ⟨⟨k0, k1, k2, k3, k4⟩, f0, f1, f2, f3, f4⟩ := blk5 hm4.out HNE.out)
    | (go_at_call 191; refine (HB.out _ hr1).mono ?_; rintro x w2 ⟨rfl, hr2, hu2⟩; have n2 := Mod.cellU (u := w) hu2 n1 HNB.out; have c2 := Mod.cellU (u := w) hu2 c1 HCB.out; have hm2 := Lib.hid (hm1.out.upd hu2))
    | (go_at_call 190; refine (HA.out _ HR.out.drew).mono ?_; rintro x w1 ⟨rfl, hr1, hu1⟩; have n1 := Mod.cellU (u := w) hu1 n0 HNB.out; have c1 := Mod.cellU (u := w) hu1 c0 HCB.out; have hm1 := Lib.hid (HM0.out.drew.upd hu1)))
  all_goals
    (obtain ⟨s0, s1, s2, s3, s4⟩ := stored5 (v0 := .string nm) (v1 := .int .u64 i) (v2 := .int .u32 (Oc.val A.1.data.toList : Nat)) (v3 := .int .u64 (Oc.val B.1.data.toList : Nat)) (v4 := .string D.1) k0 k1 k2 k3 k4
     have hbe := stored5_below (w := w4) (v0 := .string nm) (v1 := .int .u64 i) (v2 := .int .u32 (Oc.val A.1.data.toList : Nat)) (v3 := .int .u64 (Oc.val B.1.data.toList : Nat)) (v4 := .string D.1) (Nat.le_refl w.heap.size)
     go_wp2
     exact bodyPost_ret_by (rcM rfl s0 s1 s2 s3 s4) rfl ⟨rfl, hr4.below' hbe HLT.out, hm4.out.old.step' hbe⟩)
end Go.Proofs.YtgmneapgihakgaaGreatDoor
