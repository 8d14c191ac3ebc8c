/- The contracts of a versioned codec's bytes: of a queue, a message, a number. -/
import Derived.Test.YtfoijhofpjaldaaRecA
import Derived.Defers
import Derived.Recover
set_option maxRecDepth 100000
set_option maxHeartbeats 4000000
set_option linter.unusedVariables false
namespace Go.Proofs.Ytfoijhofpjaldaa
open Go.RowKit
theorem In6.step {w w1 w2 : World} {g : Nat} {p : Addr} {y x0 x1 x2 x3 x4 : Value} (h : w1.cell? ⟨g, 0, none⟩ = some x0 ∧ w1.cell? ⟨g, 1, none⟩ = some x1 ∧ w1.cell? ⟨g, 2, none⟩ = some x2 ∧ w1.cell? ⟨g, 3, none⟩ = some x3 ∧ w1.cell? ⟨g, 4, none⟩ = some x4 ∧ w1.cell? p = some y ∧ Below g w w1) (hb : Below w1.heap.size w1 w2) :
    w2.cell? ⟨g, 0, none⟩ = some x0 ∧ w2.cell? ⟨g, 1, none⟩ = some x1 ∧ w2.cell? ⟨g, 2, none⟩ = some x2 ∧ w2.cell? ⟨g, 3, none⟩ = some x3 ∧ w2.cell? ⟨g, 4, none⟩ = some x4 ∧ w2.cell? p = some y ∧ Below g w w2 := by
  obtain ⟨h0, h1, h2, h3, h4, h5, h6⟩ := h
  have hlt := World.block_lt_of_cell? _ _ h0
  exact ⟨(hb.cell (p := ⟨g, 0, none⟩) hlt).trans h0, (hb.cell (p := ⟨g, 1, none⟩) hlt).trans h1, (hb.cell (p := ⟨g, 2, none⟩) hlt).trans h2, (hb.cell (p := ⟨g, 3, none⟩) hlt).trans h3, (hb.cell (p := ⟨g, 4, none⟩) hlt).trans h4, (hb.cell (World.block_lt_of_cell? _ _ h5)).trans h5, h6.trans (hb.mono (Nat.le_of_lt hlt))⟩
theorem In6.first (w : World) {p : Addr} {y : Value} (hp : w.cell? p = some y) (x0 x1 x2 x3 x4 : Value) (T : TypeId) :
    (w.alloc (.cells #[x0, x1, x2, x3, x4] T)).drew.cell? ⟨w.heap.size, 0, none⟩ = some x0 ∧ (w.alloc (.cells #[x0, x1, x2, x3, x4] T)).drew.cell? ⟨w.heap.size, 1, none⟩ = some x1 ∧ (w.alloc (.cells #[x0, x1, x2, x3, x4] T)).drew.cell? ⟨w.heap.size, 2, none⟩ = some x2 ∧ (w.alloc (.cells #[x0, x1, x2, x3, x4] T)).drew.cell? ⟨w.heap.size, 3, none⟩ = some x3 ∧ (w.alloc (.cells #[x0, x1, x2, x3, x4] T)).drew.cell? ⟨w.heap.size, 4, none⟩ = some x4 ∧ (w.alloc (.cells #[x0, x1, x2, x3, x4] T)).drew.cell? p = some y ∧ Below w.heap.size w (w.alloc (.cells #[x0, x1, x2, x3, x4] T)).drew :=
  ⟨by simp, by simp, by simp, by simp, by simp, (((Below.refl _ w).alloc (Nat.le_refl _) _).drew.cell (World.block_lt_of_cell? _ _ hp)).trans hp, ((Below.refl _ _).alloc (Nat.le_refl _) _).drew⟩
theorem In1.step {w w1 w2 : World} {B : Nat} {p : Addr} {y : Value} (hB : B ≤ w.heap.size) (h : w1.cell? p = some y ∧ Below B w w1) (hb : Below w1.heap.size w1 w2) : w2.cell? p = some y ∧ Below B w w2 :=
  ⟨(hb.cell (World.block_lt_of_cell? _ _ h.1)).trans h.1, h.2.trans (hb.mono (Nat.le_trans hB h.2.size))⟩
theorem In1.first (w : World) {p : Addr} {y : Value} (hp : w.cell? p = some y) : w.drew.cell? p = some y ∧ Below w.heap.size w w.drew := ⟨hp, (Below.refl _ _).drew⟩
theorem encQ_len (q : Qu) : (encQ q).length = 20 + q.dead.size := by
  unfold encQ
  simp only [List.length_append, Oc.big_length, Array.length_toList, ByteArray.size_data]
  omega
theorem encM_len (m : Ms) : (encM m).length = 16 + m.body.size := by
  unfold encM
  simp only [List.length_append, Oc.big_length, Array.length_toList, ByteArray.size_data]
  omega
theorem len_smallQ (q : Qu) (hq : q.ok) : (encQ q).length ≤ 200000 := by rw [encQ_len]; have := hq.2.2.2; omega
theorem len_smallM (m : Ms) (hm : m.ok) : (encM m).length ≤ 200000 := by rw [encM_len]; have := hm.2.2; omega
theorem len_smallU (n : Nat) (_hn : n < 18446744073709551616) : (Oc.big 8 n).length ≤ 200000 := by rw [Oc.big_length]; decide
theorem len_smallW (n : Nat) (_hn : n < 65536) : (Oc.big 2 n).length ≤ 200000 := by rw [Oc.big_length]; decide
theorem one_cons (l : List UInt8) : str (Oc.big 1 1) ++ str l = str (1 :: l) := by rw [str_append]; rfl
theorem putU_any (n : Nat) (hn : n < 18446744073709551616) (w : World) :
    Calls Try.prog 32 #[.int .u64 n] w fun e w' => e = .returned (.string (str (Oc.big 8 n))) ∧ Below w.heap.size w w' := eight_at n n rfl hn w
theorem putW_any (n : Nat) (hn : n < 65536) (w : World) :
    Calls Try.prog 24 #[.int .u16 n] w fun e w' => e = .returned (.string (str (Oc.big 2 n))) ∧ Below w.heap.size w w' := two_at n n rfl hn w
theorem below_step' {a b c : World} (h : Below a.heap.size a b) (k : Below b.heap.size b c) : Below a.heap.size a c := below_step h k
theorem below2 (w : World) (o1 o2 : Obj) : Below w.heap.size w ((w.alloc o1).alloc o2) :=
  below_step ((Below.refl _ _).alloc (Nat.le_refl _) _) ((Below.refl _ _).alloc (Nat.le_refl _) _)
theorem below3 (w : World) (o1 o2 o3 : Obj) : Below w.heap.size w (((w.alloc o1).alloc o2).alloc o3) :=
  below_step (below2 w _ _) ((Below.refl _ _).alloc (Nat.le_refl _) _)
theorem size1 (w : World) (o : Obj) : (w.alloc o).heap.size = w.heap.size + 1 := by simp
theorem size2 (w : World) (o1 o2 : Obj) : ((w.alloc o1).alloc o2).heap.size = w.heap.size + 1 + 1 := by simp
theorem lt2 (w : World) (o1 o2 : Obj) : w.heap.size + 1 < ((w.alloc o1).alloc o2).heap.size := by simp
theorem lt3 (w : World) (o1 o2 o3 : Obj) : w.heap.size + 1 + 1 < (((w.alloc o1).alloc o2).alloc o3).heap.size := by simp
theorem cell2 (w : World) (o1 : Obj) (x : Value) (T : TypeId) : ((w.alloc o1).alloc (.cells #[x] T)).cell? ⟨w.heap.size + 1, 0, none⟩ = some x := by
  have := World.cell?_alloc_new (w.alloc o1) #[x] T 0
  rw [size1] at this
  exact this
theorem cell3 (w : World) (o1 o2 : Obj) (x : Value) (T : TypeId) : (((w.alloc o1).alloc o2).alloc (.cells #[x] T)).cell? ⟨w.heap.size + 1 + 1, 0, none⟩ = some x := by
  have := World.cell?_alloc_new ((w.alloc o1).alloc o2) #[x] T 0
  rw [size2] at this
  exact this
theorem vputQ_any (q : Qu) (hq : q.ok) (a : Nat) (w : World) (ha : w.cell? ⟨a, 0, none⟩ = some (.func (.func 30) #[] #[])) :
    Calls Try.prog 73 #[aggQ q, .pointer (some ⟨a, 0, none⟩)] w fun e w' => e = .returned (.string (str (1 :: encQ q))) ∧ Below w.heap.size w w' := by
  have hz := big_size
  obtain ⟨k, hzs, hk⟩ : ∃ k, (str (encQ q)).size = k ∧ k ≤ 200000 := ⟨_, rfl, by rw [str_size]; exact len_smallQ q hq⟩
  have hq1 : ¬ 9223372036854775807 < 1 + k := by omega
  have HO := Lib.hid (fun W => one_at 1 1 rfl (by decide) W)
  have HP := Lib.hid (fun W => putQ_any q hq W)
  have H := Lib.hid (one_cons (encQ q))
  have HA := Lib.hid ha
  clear ha
  revert hzs HP H
  generalize encQ q = ex
  intro hzs HP H
  unfold aggQ at HP ⊢
  go_enter Try.func73, Try.ntmps73
  go_wp2_with fail
  go_region_held3 (fun w' => w'.cell? ⟨w.heap.size, 0, none⟩ = some (.string q.nm) ∧ w'.cell? ⟨w.heap.size, 1, none⟩ = some (.int .u32 q.most) ∧ w'.cell? ⟨w.heap.size, 2, none⟩ = some (.int .u64 q.ttl) ∧ w'.cell? ⟨w.heap.size, 3, none⟩ = some (.int .u32 q.tries) ∧ w'.cell? ⟨w.heap.size, 4, none⟩ = some (.string q.dead) ∧ w'.cell? ⟨a, 0, none⟩ = some (.func (.func 30) #[] #[]) ∧ Below w.heap.size w w')
    ((first | assumption | exact In6.step ‹_› hb | exact In6.first _ HA.out _ _ _ _ _ _))
    (first
    | (go_at_call 63; refine (HO.out _).mono ?_; rintro e w1 ⟨rfl, hb⟩)
    | (go_at_call 30; refine (HP.out _).mono ?_; rintro e w1 ⟨rfl, hb⟩))
  rename_i hS
  have hB := hS.2.2.2.2.2.2
  go_wp2
  go_ret
  exact ⟨ret_string H.out, hB⟩
theorem idleBQ (p : Addr) (w : World) :
    CallsD Try.prog 39 #[.pointer (some p)] .returning w fun e u' w' => e = .returned (.tuple #[]) ∧ u' = .returning ∧ w' = w := by
  refine callsD_of_wpS Try.func39 rfl fun c₀ cs hu => ?_
  apply wpS_seq
  apply wpS_region
  simp [wpOpsS, go_sem, recoverD, hu, Try.ntmps39, Exit.thenS]
  refine wpS_cond (t := false) (by simp [Act.eval, Array.replicate]) ?_
  simp only [Bool.false_eq_true, if_false]
  refine wpS_of_wp (wp_skip ?_)
  cases c₀
  simp_all [bodyPostS, results, Try.results39]
theorem bytesQ_any (q : Qu) (hq : q.ok) (a : Nat) (gv : Value) (w : World) (ha : w.cell? ⟨a, 0, none⟩ = some (.func (.func 30) #[] #[])) :
    Calls Try.prog 8 #[.agg #[.func (.func 73) #[] #[.pointer (some ⟨a, 0, none⟩)], gv], aggQ q] w fun e w' => e = .returned (.string (str (1 :: encQ q))) ∧ Below w.heap.size w w' := by
  have hmf : ∀ (fn : Fn) (first cap : Array Value) (w : World), (Instr.makeFunc fn first cap).run Try.prog w = .ok (.func fn first cap) w := fun _ _ _ _ => rfl
  have heq : ∀ w, (binOp .eql 29 (.func (.func 73) #[] #[.pointer (some ⟨a, 0, none⟩)]) .nilFunc).run Try.prog w = .ok (.bool false) w := fun w => by kernel_rfl
  have HP : Hid (∀ W, Below w.heap.size w W → Calls Try.prog 73 #[aggQ q, .pointer (some ⟨a, 0, none⟩)] W fun e w' => e = .returned (.string (str (1 :: encQ q))) ∧ Below W.heap.size W w') := fun W hW => vputQ_any q hq a W ((hW.cell (World.block_lt_of_cell? _ _ ha)).trans ha)
  generalize str (1 :: encQ q) = ex at HP ⊢
  clear ha
  unfold aggQ at HP ⊢
  go_enter_defers Try.func8, Try.ntmps8
  go_wp2_with (go_at_call 73; refine (HP.out _ (below3 w _ _ _)).mono ?_; rintro e w1 ⟨rfl, hb⟩; have hc := hb.cell (p := ⟨w.heap.size + 1 + 1, 0, none⟩) (lt3 w _ _ _); have hz := hb.frozen (p := ⟨w.heap.size + 1 + 1, 0, none⟩) (lt3 w _ _ _))
  have hcs : (w1.setCell ⟨w.heap.size + 1 + 1, 0, none⟩ (.string ex)).cell? ⟨w.heap.size + 1 + 1, 0, none⟩ = some (.string ex) := World.cell?_setCell_same _ _ _ (u := .string ⟨#[]⟩) (hc.trans (cell3 w _ _ _ 9))
  refine leaves_cons (f := 39) (args := #[.pointer (some ⟨w.heap.size + 1 + 1, 0, none⟩)]) (by simp) (by simp [go_sem]) ?_
  refine (idleBQ ⟨w.heap.size + 1 + 1, 0, none⟩ _).mono ?_
  rintro e u' w'' ⟨rfl, rfl, rfl⟩
  simp [Leaves, settle, results, Try.results8, go_sem, hcs]
  exact below_step' (below3 w _ _ _) hb |>.setCell (show w.heap.size ≤ w.heap.size + 1 + 1 by omega) _
theorem vputM_any (m : Ms) (hm : m.ok) (a : Nat) (w : World) (ha : w.cell? ⟨a, 0, none⟩ = some (.func (.func 41) #[] #[])) :
    Calls Try.prog 75 #[aggM m, .pointer (some ⟨a, 0, none⟩)] w fun e w' => e = .returned (.string (str (1 :: encM m))) ∧ Below w.heap.size w w' := by
  have hz := big_size
  obtain ⟨k, hzs, hk⟩ : ∃ k, (str (encM m)).size = k ∧ k ≤ 200000 := ⟨_, rfl, by rw [str_size]; exact len_smallM m hm⟩
  have hq1 : ¬ 9223372036854775807 < 1 + k := by omega
  have HO := Lib.hid (fun W => one_at 1 1 rfl (by decide) W)
  have HP := Lib.hid (fun W => putM_any m hm W)
  have H := Lib.hid (one_cons (encM m))
  have HA := Lib.hid ha
  clear ha
  revert hzs HP H
  generalize encM m = ex
  intro hzs HP H
  unfold aggM at HP ⊢
  go_enter Try.func75, Try.ntmps75
  go_wp2_with fail
  go_region_held3 (fun w' => w'.cell? ⟨w.heap.size, 0, none⟩ = some (.string m.qu) ∧ w'.cell? ⟨w.heap.size, 1, none⟩ = some (.int .u64 m.id) ∧ w'.cell? ⟨w.heap.size, 2, none⟩ = some (.int .u32 m.tries) ∧ w'.cell? ⟨w.heap.size, 3, none⟩ = some (.int .u64 m.expiry) ∧ w'.cell? ⟨w.heap.size, 4, none⟩ = some (.string m.body) ∧ w'.cell? ⟨a, 0, none⟩ = some (.func (.func 41) #[] #[]) ∧ Below w.heap.size w w')
    ((first | assumption | exact In6.step ‹_› hb | exact In6.first _ HA.out _ _ _ _ _ _))
    (first
    | (go_at_call 63; refine (HO.out _).mono ?_; rintro e w1 ⟨rfl, hb⟩)
    | (go_at_call 41; refine (HP.out _).mono ?_; rintro e w1 ⟨rfl, hb⟩))
  rename_i hS
  have hB := hS.2.2.2.2.2.2
  go_wp2
  go_ret
  exact ⟨ret_string H.out, hB⟩
theorem idleBM (p : Addr) (w : World) :
    CallsD Try.prog 44 #[.pointer (some p)] .returning w fun e u' w' => e = .returned (.tuple #[]) ∧ u' = .returning ∧ w' = w := by
  refine callsD_of_wpS Try.func44 rfl fun c₀ cs hu => ?_
  apply wpS_seq
  apply wpS_region
  simp [wpOpsS, go_sem, recoverD, hu, Try.ntmps44, Exit.thenS]
  refine wpS_cond (t := false) (by simp [Act.eval, Array.replicate]) ?_
  simp only [Bool.false_eq_true, if_false]
  refine wpS_of_wp (wp_skip ?_)
  cases c₀
  simp_all [bodyPostS, results, Try.results44]
theorem bytesM_any (m : Ms) (hm : m.ok) (a : Nat) (gv : Value) (w : World) (ha : w.cell? ⟨a, 0, none⟩ = some (.func (.func 41) #[] #[])) :
    Calls Try.prog 11 #[.agg #[.func (.func 75) #[] #[.pointer (some ⟨a, 0, none⟩)], gv], aggM m] w fun e w' => e = .returned (.string (str (1 :: encM m))) ∧ Below w.heap.size w w' := by
  have hmf : ∀ (fn : Fn) (first cap : Array Value) (w : World), (Instr.makeFunc fn first cap).run Try.prog w = .ok (.func fn first cap) w := fun _ _ _ _ => rfl
  have heq : ∀ w, (binOp .eql 34 (.func (.func 75) #[] #[.pointer (some ⟨a, 0, none⟩)]) .nilFunc).run Try.prog w = .ok (.bool false) w := fun w => by kernel_rfl
  have HP : Hid (∀ W, Below w.heap.size w W → Calls Try.prog 75 #[aggM m, .pointer (some ⟨a, 0, none⟩)] W fun e w' => e = .returned (.string (str (1 :: encM m))) ∧ Below W.heap.size W w') := fun W hW => vputM_any m hm a W ((hW.cell (World.block_lt_of_cell? _ _ ha)).trans ha)
  generalize str (1 :: encM m) = ex at HP ⊢
  clear ha
  unfold aggM at HP ⊢
  go_enter_defers Try.func11, Try.ntmps11
  go_wp2_with (go_at_call 75; refine (HP.out _ (below3 w _ _ _)).mono ?_; rintro e w1 ⟨rfl, hb⟩; have hc := hb.cell (p := ⟨w.heap.size + 1 + 1, 0, none⟩) (lt3 w _ _ _); have hz := hb.frozen (p := ⟨w.heap.size + 1 + 1, 0, none⟩) (lt3 w _ _ _))
  have hcs : (w1.setCell ⟨w.heap.size + 1 + 1, 0, none⟩ (.string ex)).cell? ⟨w.heap.size + 1 + 1, 0, none⟩ = some (.string ex) := World.cell?_setCell_same _ _ _ (u := .string ⟨#[]⟩) (hc.trans (cell3 w _ _ _ 9))
  refine leaves_cons (f := 44) (args := #[.pointer (some ⟨w.heap.size + 1 + 1, 0, none⟩)]) (by simp) (by simp [go_sem]) ?_
  refine (idleBM ⟨w.heap.size + 1 + 1, 0, none⟩ _).mono ?_
  rintro e u' w'' ⟨rfl, rfl, rfl⟩
  simp [Leaves, settle, results, Try.results11, go_sem, hcs]
  exact below_step' (below3 w _ _ _) hb |>.setCell (show w.heap.size ≤ w.heap.size + 1 + 1 by omega) _
theorem vputU_any (n : Nat) (hn : n < 18446744073709551616) (a : Nat) (w : World) (ha : w.cell? ⟨a, 0, none⟩ = some (.func (.func 32) #[] #[])) :
    Calls Try.prog 77 #[.int .u64 n, .pointer (some ⟨a, 0, none⟩)] w fun e w' => e = .returned (.string (str (1 :: Oc.big 8 n))) ∧ Below w.heap.size w w' := by
  have hz := big_size
  obtain ⟨k, hzs, hk⟩ : ∃ k, (str (Oc.big 8 n)).size = k ∧ k ≤ 200000 := ⟨_, rfl, by rw [str_size]; exact len_smallU n hn⟩
  have hq1 : ¬ 9223372036854775807 < 1 + k := by omega
  have HO := Lib.hid (fun W => one_at 1 1 rfl (by decide) W)
  have HP := Lib.hid (fun W => putU_any n hn W)
  have H := Lib.hid (one_cons (Oc.big 8 n))
  have HA := Lib.hid ha
  clear ha
  revert hzs HP H
  generalize Oc.big 8 n = ex
  intro hzs HP H
  go_enter Try.func77, Try.ntmps77
  go_wp2_with fail
  go_region_held3 (fun w' => w'.cell? ⟨a, 0, none⟩ = some (.func (.func 32) #[] #[]) ∧ Below w.heap.size w w')
    ((first | assumption | exact In1.step (Nat.le_refl _) ‹_› hb | exact In1.first _ HA.out))
    (first
    | (go_at_call 63; refine (HO.out _).mono ?_; rintro e w1 ⟨rfl, hb⟩)
    | (go_at_call 32; refine (HP.out _).mono ?_; rintro e w1 ⟨rfl, hb⟩))
  rename_i hS
  have hB := hS.2
  go_wp2
  go_ret
  exact ⟨ret_string H.out, hB⟩
theorem idleBU (p : Addr) (w : World) :
    CallsD Try.prog 46 #[.pointer (some p)] .returning w fun e u' w' => e = .returned (.tuple #[]) ∧ u' = .returning ∧ w' = w := by
  refine callsD_of_wpS Try.func46 rfl fun c₀ cs hu => ?_
  apply wpS_seq
  apply wpS_region
  simp [wpOpsS, go_sem, recoverD, hu, Try.ntmps46, Exit.thenS]
  refine wpS_cond (t := false) (by simp [Act.eval, Array.replicate]) ?_
  simp only [Bool.false_eq_true, if_false]
  refine wpS_of_wp (wp_skip ?_)
  cases c₀
  simp_all [bodyPostS, results, Try.results46]
theorem bytesU_any (n : Nat) (hn : n < 18446744073709551616) (a : Nat) (gv : Value) (w : World) (ha : w.cell? ⟨a, 0, none⟩ = some (.func (.func 32) #[] #[])) :
    Calls Try.prog 14 #[.agg #[.func (.func 77) #[] #[.pointer (some ⟨a, 0, none⟩)], gv], .int .u64 n] w fun e w' => e = .returned (.string (str (1 :: Oc.big 8 n))) ∧ Below w.heap.size w w' := by
  have hmf : ∀ (fn : Fn) (first cap : Array Value) (w : World), (Instr.makeFunc fn first cap).run Try.prog w = .ok (.func fn first cap) w := fun _ _ _ _ => rfl
  have heq : ∀ w, (binOp .eql 39 (.func (.func 77) #[] #[.pointer (some ⟨a, 0, none⟩)]) .nilFunc).run Try.prog w = .ok (.bool false) w := fun w => by kernel_rfl
  have HP : Hid (∀ W, Below w.heap.size w W → Calls Try.prog 77 #[.int .u64 n, .pointer (some ⟨a, 0, none⟩)] W fun e w' => e = .returned (.string (str (1 :: Oc.big 8 n))) ∧ Below W.heap.size W w') := fun W hW => vputU_any n hn a W ((hW.cell (World.block_lt_of_cell? _ _ ha)).trans ha)
  generalize str (1 :: Oc.big 8 n) = ex at HP ⊢
  clear ha
  go_enter_defers Try.func14, Try.ntmps14
  go_wp2_with (go_at_call 77; refine (HP.out _ (below2 w _ _)).mono ?_; rintro e w1 ⟨rfl, hb⟩; have hc := hb.cell (p := ⟨w.heap.size + 1, 0, none⟩) (lt2 w _ _); have hz := hb.frozen (p := ⟨w.heap.size + 1, 0, none⟩) (lt2 w _ _))
  have hcs : (w1.setCell ⟨w.heap.size + 1, 0, none⟩ (.string ex)).cell? ⟨w.heap.size + 1, 0, none⟩ = some (.string ex) := World.cell?_setCell_same _ _ _ (u := .string ⟨#[]⟩) (hc.trans (cell2 w _ _ 9))
  refine leaves_cons (f := 46) (args := #[.pointer (some ⟨w.heap.size + 1, 0, none⟩)]) (by simp) (by simp [go_sem]) ?_
  refine (idleBU ⟨w.heap.size + 1, 0, none⟩ _).mono ?_
  rintro e u' w'' ⟨rfl, rfl, rfl⟩
  simp [Leaves, settle, results, Try.results14, go_sem, hcs]
  exact below_step' (below2 w _ _) hb |>.setCell (show w.heap.size ≤ w.heap.size + 1 by omega) _
theorem vputW_any (n : Nat) (hn : n < 65536) (a : Nat) (w : World) (ha : w.cell? ⟨a, 0, none⟩ = some (.func (.func 24) #[] #[])) :
    Calls Try.prog 62 #[.int .u16 n, .pointer (some ⟨a, 0, none⟩)] w fun e w' => e = .returned (.string (str (1 :: Oc.big 2 n))) ∧ Below w.heap.size w w' := by
  have hz := big_size
  obtain ⟨k, hzs, hk⟩ : ∃ k, (str (Oc.big 2 n)).size = k ∧ k ≤ 200000 := ⟨_, rfl, by rw [str_size]; exact len_smallW n hn⟩
  have hq1 : ¬ 9223372036854775807 < 1 + k := by omega
  have HO := Lib.hid (fun W => one_at 1 1 rfl (by decide) W)
  have HP := Lib.hid (fun W => putW_any n hn W)
  have H := Lib.hid (one_cons (Oc.big 2 n))
  have HA := Lib.hid ha
  clear ha
  revert hzs HP H
  generalize Oc.big 2 n = ex
  intro hzs HP H
  go_enter Try.func62, Try.ntmps62
  go_wp2_with fail
  go_region_held3 (fun w' => w'.cell? ⟨a, 0, none⟩ = some (.func (.func 24) #[] #[]) ∧ Below w.heap.size w w')
    ((first | assumption | exact In1.step (Nat.le_refl _) ‹_› hb | exact In1.first _ HA.out))
    (first
    | (go_at_call 63; refine (HO.out _).mono ?_; rintro e w1 ⟨rfl, hb⟩)
    | (go_at_call 24; refine (HP.out _).mono ?_; rintro e w1 ⟨rfl, hb⟩))
  rename_i hS
  have hB := hS.2
  go_wp2
  go_ret
  exact ⟨ret_string H.out, hB⟩
theorem idleBW (p : Addr) (w : World) :
    CallsD Try.prog 70 #[.pointer (some p)] .returning w fun e u' w' => e = .returned (.tuple #[]) ∧ u' = .returning ∧ w' = w := by
  refine callsD_of_wpS Try.func70 rfl fun c₀ cs hu => ?_
  apply wpS_seq
  apply wpS_region
  simp [wpOpsS, go_sem, recoverD, hu, Try.ntmps70, Exit.thenS]
  refine wpS_cond (t := false) (by simp [Act.eval, Array.replicate]) ?_
  simp only [Bool.false_eq_true, if_false]
  refine wpS_of_wp (wp_skip ?_)
  cases c₀
  simp_all [bodyPostS, results, Try.results70]
theorem bytesW_any (n : Nat) (hn : n < 65536) (a : Nat) (gv : Value) (w : World) (ha : w.cell? ⟨a, 0, none⟩ = some (.func (.func 24) #[] #[])) :
    Calls Try.prog 27 #[.agg #[.func (.func 62) #[] #[.pointer (some ⟨a, 0, none⟩)], gv], .int .u16 n] w fun e w' => e = .returned (.string (str (1 :: Oc.big 2 n))) ∧ Below w.heap.size w w' := by
  have hmf : ∀ (fn : Fn) (first cap : Array Value) (w : World), (Instr.makeFunc fn first cap).run Try.prog w = .ok (.func fn first cap) w := fun _ _ _ _ => rfl
  have heq : ∀ w, (binOp .eql 62 (.func (.func 62) #[] #[.pointer (some ⟨a, 0, none⟩)]) .nilFunc).run Try.prog w = .ok (.bool false) w := fun w => by kernel_rfl
  have HP : Hid (∀ W, Below w.heap.size w W → Calls Try.prog 62 #[.int .u16 n, .pointer (some ⟨a, 0, none⟩)] W fun e w' => e = .returned (.string (str (1 :: Oc.big 2 n))) ∧ Below W.heap.size W w') := fun W hW => vputW_any n hn a W ((hW.cell (World.block_lt_of_cell? _ _ ha)).trans ha)
  generalize str (1 :: Oc.big 2 n) = ex at HP ⊢
  clear ha
  go_enter_defers Try.func27, Try.ntmps27
  go_wp2_with (go_at_call 62; refine (HP.out _ (below2 w _ _)).mono ?_; rintro e w1 ⟨rfl, hb⟩; have hc := hb.cell (p := ⟨w.heap.size + 1, 0, none⟩) (lt2 w _ _); have hz := hb.frozen (p := ⟨w.heap.size + 1, 0, none⟩) (lt2 w _ _))
  have hcs : (w1.setCell ⟨w.heap.size + 1, 0, none⟩ (.string ex)).cell? ⟨w.heap.size + 1, 0, none⟩ = some (.string ex) := World.cell?_setCell_same _ _ _ (u := .string ⟨#[]⟩) (hc.trans (cell2 w _ _ 9))
  refine leaves_cons (f := 70) (args := #[.pointer (some ⟨w.heap.size + 1, 0, none⟩)]) (by simp) (by simp [go_sem]) ?_
  refine (idleBW ⟨w.heap.size + 1, 0, none⟩ _).mono ?_
  rintro e u' w'' ⟨rfl, rfl, rfl⟩
  simp [Leaves, settle, results, Try.results27, go_sem, hcs]
  exact below_step' (below2 w _ _) hb |>.setCell (show w.heap.size ≤ w.heap.size + 1 by omega) _
end Go.Proofs.Ytfoijhofpjaldaa
