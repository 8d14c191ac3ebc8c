/- The contracts of a versioned codec's reading: of a number. -/
import Derived.Test.YtfoijhofpjaldaaRecG
set_option maxRecDepth 100000
set_option maxHeartbeats 4000000
set_option linter.unusedVariables false
namespace Go.Proofs.Ytfoijhofpjaldaa
open Go.RowKit
def getU (s : ByteArray) (e : Int) : Nat × ByteArray × Int := (Oc.val (tk s e 8).1.data.toList, (tk s e 8).2.1, (tk s e 8).2.2)
def getW (s : ByteArray) (e : Int) : Nat × ByteArray × Int := (Oc.val (tk s e 2).1.data.toList, (tk s e 2).2.1, (tk s e 2).2.2)
theorem getFnU_any (b : Nat) (s : ByteArray) (e : Int) (w : World) (h : Rd w b s e) :
    Calls Try.prog 36 #[.pointer (some ⟨b, 0, none⟩)] w fun v w' => v = .returned (.int .u64 ((getU s e).1 : Nat)) ∧ Rd w' b (getU s e).2.1 (getU s e).2.2 ∧ Upd b w w' := eight_rd b s e w h
theorem getFnW_any (b : Nat) (s : ByteArray) (e : Int) (w : World) (h : Rd w b s e) :
    Calls Try.prog 25 #[.pointer (some ⟨b, 0, none⟩)] w fun v w' => v = .returned (.int .u16 ((getW s e).1 : Nat)) ∧ Rd w' b (getW s e).2.1 (getW s e).2.2 ∧ Upd b w w' := two_rd b s e w h
theorem vgetU_any (b g : Nat) (s : ByteArray) (e : Int) (w : World) (h : Rd w b s e) (hG : Gv0 w b g (.func (.func 36) #[] #[])) :
    Calls Try.prog 78 #[.pointer (some ⟨b, 0, none⟩), .pointer (some ⟨g, 0, none⟩)] w fun x w' => x = .returned (.int .u64 ((verG 0 getU s e).1 : Nat)) ∧ Rd w' b (verG 0 getU s e).2.1 (verG 0 getU s e).2.2 ∧ Upd b w w' := by
  have HR := Lib.hid h
  have HG := Lib.hid hG
  clear h hG
  unfold verG
  simp only
  have HO := Lib.hid (fun W (hW : Rd W b s e) => one_rd b s e W hW)
  revert HO
  generalize tk s e 1 = O
  intro HO
  by_cases hv : Oc.val O.1.data.toList = 1
  · rw [if_pos hv]
    rw [hv] at HO
    clear hv
    have HF := Lib.hid (fun W (hW : Rd W b O.2.1 O.2.2) => getFnU_any b O.2.1 O.2.2 W hW)
    revert HF
    generalize getU O.2.1 O.2.2 = G
    intro HF
    have HE := Lib.hid (fun W (hW : Rd W b G.2.1 G.2.2) => err_any b G.2.1 G.2.2 W hW)
    obtain ⟨n, r, f⟩ := G
    simp only at HF HE ⊢
    by_cases hf : f = 0
    · subst hf
      rw [if_pos rfl]
      go_enter Try.func78, Try.ntmps78
      go_wp2_with (first
        | (go_at_call 65; refine (HO.out _ HR.out).mono ?_; rintro x w1 ⟨rfl, hr1, hu1⟩; have qf := (HG.out.upd hu1).cg)
        | (go_at_call 36; refine (HF.out _ hr1).mono ?_; rintro x w2 ⟨rfl, hr2, hu2⟩; clear qf)
        | (go_at_call 67; refine (HE.out _ hr2).mono ?_; rintro x w3 ⟨rfl, rfl⟩))
      go_ret
      exact ⟨rfl, hr2, hu1.trans hu2⟩
    · have hf' : (f != 0) = true := by rw [bne_iff_ne]; exact hf
      rw [if_neg hf]
      go_enter Try.func78, Try.ntmps78
      go_wp2_with (first
        | (go_at_call 65; refine (HO.out _ HR.out).mono ?_; rintro x w1 ⟨rfl, hr1, hu1⟩; have qf := (HG.out.upd hu1).cg)
        | (go_at_call 36; refine (HF.out _ hr1).mono ?_; rintro x w2 ⟨rfl, hr2, hu2⟩; clear qf)
        | (go_at_call 67; refine (HE.out _ hr2).mono ?_; rintro x w3 ⟨rfl, rfl⟩))
      go_ret
      exact ⟨rfl, hr2, hu1.trans hu2⟩
  · rw [if_neg hv]
    have HF := Lib.hid (fun W (hW : Rd W b O.2.1 O.2.2) => fail_any b O.2.1 O.2.2 4 W hW)
    revert HO hv HF
    generalize Oc.val O.1.data.toList = v
    generalize hx : (if O.2.2 = 0 then (4 : Int) else O.2.2) = x4
    intro HO hv HF
    clear hx
    have hd : ((v : Int) != 1) = true := by rw [bne_iff_ne]; omega
    go_enter Try.func78, Try.ntmps78
    go_wp2_with (first
      | (go_at_call 65; refine (HO.out _ HR.out).mono ?_; rintro x w1 ⟨rfl, hr1, hu1⟩)
      | (go_at_call 66; refine (HF.out _ hr1).mono ?_; rintro x w2 ⟨rfl, hr2, hu2⟩))
    go_ret
    exact ⟨rfl, hr2, hu1.trans hu2⟩
theorem idleGU (p : Addr) (w : World) :
    CallsD Try.prog 89 #[.pointer (some p)] .returning w fun e u' w' => e = .returned (.tuple #[]) ∧ u' = .returning ∧ w' = w := by
  refine callsD_of_wpS Try.func89 rfl fun c₀ cs hu => ?_
  apply wpS_seq
  apply wpS_region
  simp [wpOpsS, go_sem, recoverD, hu, Try.ntmps89, Exit.thenS]
  refine wpS_cond (t := false) (by simp [Act.eval, Array.replicate]) ?_
  simp only [Bool.false_eq_true, if_false]
  refine wpS_of_wp (wp_skip ?_)
  cases c₀
  simp_all [bodyPostS, results, Try.results89]
set_option maxHeartbeats 2000000 in
theorem getU_any (pv : Value) (b g : Nat) (s : ByteArray) (e : Int) (w : World) (h : Rd w b s e) (hG : Gv0 w b g (.func (.func 36) #[] #[])) :
    Calls Try.prog 61 #[.agg #[pv, .func (.func 78) #[] #[.pointer (some ⟨g, 0, none⟩)]], .pointer (some ⟨b, 0, none⟩)] w fun x w' => x = .returned (.int .u64 ((verG 0 getU s e).1 : Nat)) ∧ Rd w' b (verG 0 getU s e).2.1 (verG 0 getU s e).2.2 ∧ Mod b w w' := by
  have hmf : ∀ (fn : Fn) (first cap : Array Value) (w : World), (Instr.makeFunc fn first cap).run Try.prog w = .ok (.func fn first cap) w := fun _ _ _ _ => rfl
  have HR : Hid (∀ o1 o2, Rd ((w.alloc o1).alloc o2) b s e) := fun o1 o2 => (h.alloc o1).alloc o2
  have HGV : Hid (∀ o1 o2, Gv0 ((w.alloc o1).alloc o2) b g (.func (.func 36) #[] #[])) := fun o1 o2 => (hG.alloc o1).alloc o2
  clear h hG
  have HV := Lib.hid (fun W (hW : Rd W b s e) (hV : Gv0 W b g (.func (.func 36) #[] #[])) => vgetU_any b g s e W hW hV)
  revert HV
  generalize verG 0 getU s e = G
  obtain ⟨n, r, f⟩ := G
  intro HV
  simp only at HV ⊢
  go_enter_defers Try.func61, Try.ntmps61
  go_wp2_with (go_at_call 78; go_loud (refine (HV.out _ (HR.out _ _) (HGV.out _ _)).mono ?_; rintro x w1 ⟨rfl, hr1, hu1⟩))
  refine leaves_cons (f := 89) (args := #[.pointer (some ⟨w.heap.size + 1, 0, none⟩)]) (by simp) (by simp [go_sem]) ?_
  refine (idleGU ⟨w.heap.size + 1, 0, none⟩ _).mono ?_
  rintro e u' w'' ⟨rfl, rfl, rfl⟩
  simp [Leaves, settle, results, Try.results61, go_sem]
  exact ⟨hr1, (((Mod.refl b w).alloc _).alloc _).upd hu1⟩
set_option maxHeartbeats 2000000 in
theorem readU_any (pv : Value) (g : Nat) (s : ByteArray) (w : World) (hG : w.cell? ⟨g, 0, none⟩ = some (.func (.func 36) #[] #[])) :
    Calls Try.prog 21 #[.agg #[pv, .func (.func 78) #[] #[.pointer (some ⟨g, 0, none⟩)]], .string s] w fun x w' => x = .returned (.tuple #[.int .u64 ((readG 0 getU s).1 : Nat), .int .i64 (readG 0 getU s).2]) ∧ Below w.heap.size w w' := by
  have heq : ∀ w, (binOp .eql 40 (.func (.func 78) #[] #[.pointer (some ⟨g, 0, none⟩)]) .nilFunc).run Try.prog w = .ok (.bool false) w := fun w => by kernel_rfl
  have HC0 := Lib.hid (Cd2.new w pv (.func (.func 78) #[] #[.pointer (some ⟨g, 0, none⟩)]) 42)
  have HGV : Hid (Gv0 (w.alloc (.cells #[pv, .func (.func 78) #[] #[.pointer (some ⟨g, 0, none⟩)]] 42)) (w.heap.size + 1) g (.func (.func 36) #[] #[])) :=
    Gv0.alloc ⟨hG, by have := World.block_lt_of_cell? _ _ hG; simp at this; omega⟩ _
  have HG := Lib.hid (fun b W (hW : Rd W b s 0) (hV : Gv0 W b g (.func (.func 36) #[] #[])) => getU_any pv b g s 0 W hW hV)
  clear hG
  unfold readG
  revert HG
  generalize verG 0 getU s 0 = G
  obtain ⟨n, r, f⟩ := G
  intro HG
  simp only at HG ⊢
  have HE := Lib.hid (fun b W (hW : Rd W b r f) => end_rd b r f W hW)
  revert HE
  generalize fin r f = y
  intro HE
  obtain ⟨b, hb⟩ : ∃ b, b = w.heap.size + 1 := ⟨_, rfl⟩
  rw [← hb] at HGV
  have HBE := Lib.hid hb
  clear hb
  by_cases hf : y = 0
  · subst hf
    rw [if_pos rfl]
    go_enter Try.func21, Try.ntmps21
    go_wp2_with (first
      | (go_at_call 53; refine (over_at _ b _ (by rw [size1, HBE.out])).mono ?_; rintro e w1 ⟨rfl, hr1, hb1⟩; have HGV1 := Lib.hid (HGV.out.below hb1); have HC1 := Lib.hid (HC0.out.below hb1); have HW1 := Lib.hid (below_step ((Below.refl _ w).alloc (Nat.le_refl _) _) hb1); have qa := HC1.out.c0; have qb := HC1.out.c1)
      | (go_at_call 61; refine (HG.out _ _ hr1 HGV1.out).mono ?_; rintro e w2 ⟨rfl, hr2, hm2⟩; have HW2 : Hid (Below w.heap.size w w2) := HW1.out.trans (hm2.below (by rw [HBE.out]; omega) HW1.out.size))
      | (go_at_call 55; refine (HE.out _ _ hr2).mono ?_; rintro e w3 ⟨rfl, rfl⟩))
    go_ret2
    exact ⟨rfl, HW2.out⟩
  · have hf' : (y != 0) = true := by rw [bne_iff_ne]; exact hf
    rw [if_neg hf]
    go_enter Try.func21, Try.ntmps21
    go_wp2_with (first
      | (go_at_call 53; refine (over_at _ b _ (by rw [size1, HBE.out])).mono ?_; rintro e w1 ⟨rfl, hr1, hb1⟩; have HGV1 := Lib.hid (HGV.out.below hb1); have HC1 := Lib.hid (HC0.out.below hb1); have HW1 := Lib.hid (below_step ((Below.refl _ w).alloc (Nat.le_refl _) _) hb1); have qa := HC1.out.c0; have qb := HC1.out.c1)
      | (go_at_call 61; refine (HG.out _ _ hr1 HGV1.out).mono ?_; rintro e w2 ⟨rfl, hr2, hm2⟩; have HW2 : Hid (Below w.heap.size w w2) := HW1.out.trans (hm2.below (by rw [HBE.out]; omega) HW1.out.size))
      | (go_at_call 55; refine (HE.out _ _ hr2).mono ?_; rintro e w3 ⟨rfl, rfl⟩))
    go_ret2
    exact ⟨rfl, HW2.out⟩
theorem vgetW_any (b g : Nat) (s : ByteArray) (e : Int) (w : World) (h : Rd w b s e) (hG : Gv0 w b g (.func (.func 25) #[] #[])) :
    Calls Try.prog 64 #[.pointer (some ⟨b, 0, none⟩), .pointer (some ⟨g, 0, none⟩)] w fun x w' => x = .returned (.int .u16 ((verG 0 getW s e).1 : Nat)) ∧ Rd w' b (verG 0 getW s e).2.1 (verG 0 getW s e).2.2 ∧ Upd b w w' := by
  have HR := Lib.hid h
  have HG := Lib.hid hG
  clear h hG
  unfold verG
  simp only
  have HO := Lib.hid (fun W (hW : Rd W b s e) => one_rd b s e W hW)
  revert HO
  generalize tk s e 1 = O
  intro HO
  by_cases hv : Oc.val O.1.data.toList = 1
  · rw [if_pos hv]
    rw [hv] at HO
    clear hv
    have HF := Lib.hid (fun W (hW : Rd W b O.2.1 O.2.2) => getFnW_any b O.2.1 O.2.2 W hW)
    revert HF
    generalize getW O.2.1 O.2.2 = G
    intro HF
    have HE := Lib.hid (fun W (hW : Rd W b G.2.1 G.2.2) => err_any b G.2.1 G.2.2 W hW)
    obtain ⟨n, r, f⟩ := G
    simp only at HF HE ⊢
    by_cases hf : f = 0
    · subst hf
      rw [if_pos rfl]
      go_enter Try.func64, Try.ntmps64
      go_wp2_with (first
        | (go_at_call 65; refine (HO.out _ HR.out).mono ?_; rintro x w1 ⟨rfl, hr1, hu1⟩; have qf := (HG.out.upd hu1).cg)
        | (go_at_call 25; refine (HF.out _ hr1).mono ?_; rintro x w2 ⟨rfl, hr2, hu2⟩; clear qf)
        | (go_at_call 67; refine (HE.out _ hr2).mono ?_; rintro x w3 ⟨rfl, rfl⟩))
      go_ret
      exact ⟨rfl, hr2, hu1.trans hu2⟩
    · have hf' : (f != 0) = true := by rw [bne_iff_ne]; exact hf
      rw [if_neg hf]
      go_enter Try.func64, Try.ntmps64
      go_wp2_with (first
        | (go_at_call 65; refine (HO.out _ HR.out).mono ?_; rintro x w1 ⟨rfl, hr1, hu1⟩; have qf := (HG.out.upd hu1).cg)
        | (go_at_call 25; refine (HF.out _ hr1).mono ?_; rintro x w2 ⟨rfl, hr2, hu2⟩; clear qf)
        | (go_at_call 67; refine (HE.out _ hr2).mono ?_; rintro x w3 ⟨rfl, rfl⟩))
      go_ret
      exact ⟨rfl, hr2, hu1.trans hu2⟩
  · rw [if_neg hv]
    have HF := Lib.hid (fun W (hW : Rd W b O.2.1 O.2.2) => fail_any b O.2.1 O.2.2 4 W hW)
    revert HO hv HF
    generalize Oc.val O.1.data.toList = v
    generalize hx : (if O.2.2 = 0 then (4 : Int) else O.2.2) = x4
    intro HO hv HF
    clear hx
    have hd : ((v : Int) != 1) = true := by rw [bne_iff_ne]; omega
    go_enter Try.func64, Try.ntmps64
    go_wp2_with (first
      | (go_at_call 65; refine (HO.out _ HR.out).mono ?_; rintro x w1 ⟨rfl, hr1, hu1⟩)
      | (go_at_call 66; refine (HF.out _ hr1).mono ?_; rintro x w2 ⟨rfl, hr2, hu2⟩))
    go_ret
    exact ⟨rfl, hr2, hu1.trans hu2⟩
theorem idleGW (p : Addr) (w : World) :
    CallsD Try.prog 90 #[.pointer (some p)] .returning w fun e u' w' => e = .returned (.tuple #[]) ∧ u' = .returning ∧ w' = w := by
  refine callsD_of_wpS Try.func90 rfl fun c₀ cs hu => ?_
  apply wpS_seq
  apply wpS_region
  simp [wpOpsS, go_sem, recoverD, hu, Try.ntmps90, Exit.thenS]
  refine wpS_cond (t := false) (by simp [Act.eval, Array.replicate]) ?_
  simp only [Bool.false_eq_true, if_false]
  refine wpS_of_wp (wp_skip ?_)
  cases c₀
  simp_all [bodyPostS, results, Try.results90]
set_option maxHeartbeats 2000000 in
theorem getW_any (pv : Value) (b g : Nat) (s : ByteArray) (e : Int) (w : World) (h : Rd w b s e) (hG : Gv0 w b g (.func (.func 25) #[] #[])) :
    Calls Try.prog 69 #[.agg #[pv, .func (.func 64) #[] #[.pointer (some ⟨g, 0, none⟩)]], .pointer (some ⟨b, 0, none⟩)] w fun x w' => x = .returned (.int .u16 ((verG 0 getW s e).1 : Nat)) ∧ Rd w' b (verG 0 getW s e).2.1 (verG 0 getW s e).2.2 ∧ Mod b w w' := by
  have hmf : ∀ (fn : Fn) (first cap : Array Value) (w : World), (Instr.makeFunc fn first cap).run Try.prog w = .ok (.func fn first cap) w := fun _ _ _ _ => rfl
  have HR : Hid (∀ o1 o2, Rd ((w.alloc o1).alloc o2) b s e) := fun o1 o2 => (h.alloc o1).alloc o2
  have HGV : Hid (∀ o1 o2, Gv0 ((w.alloc o1).alloc o2) b g (.func (.func 25) #[] #[])) := fun o1 o2 => (hG.alloc o1).alloc o2
  clear h hG
  have HV := Lib.hid (fun W (hW : Rd W b s e) (hV : Gv0 W b g (.func (.func 25) #[] #[])) => vgetW_any b g s e W hW hV)
  revert HV
  generalize verG 0 getW s e = G
  obtain ⟨n, r, f⟩ := G
  intro HV
  simp only at HV ⊢
  go_enter_defers Try.func69, Try.ntmps69
  go_wp2_with (go_at_call 64; go_loud (refine (HV.out _ (HR.out _ _) (HGV.out _ _)).mono ?_; rintro x w1 ⟨rfl, hr1, hu1⟩))
  refine leaves_cons (f := 90) (args := #[.pointer (some ⟨w.heap.size + 1, 0, none⟩)]) (by simp) (by simp [go_sem]) ?_
  refine (idleGW ⟨w.heap.size + 1, 0, none⟩ _).mono ?_
  rintro e u' w'' ⟨rfl, rfl, rfl⟩
  simp [Leaves, settle, results, Try.results69, go_sem]
  exact ⟨hr1, (((Mod.refl b w).alloc _).alloc _).upd hu1⟩
set_option maxHeartbeats 2000000 in
theorem readW_any (pv : Value) (g : Nat) (s : ByteArray) (w : World) (hG : w.cell? ⟨g, 0, none⟩ = some (.func (.func 25) #[] #[])) :
    Calls Try.prog 26 #[.agg #[pv, .func (.func 64) #[] #[.pointer (some ⟨g, 0, none⟩)]], .string s] w fun x w' => x = .returned (.tuple #[.int .u16 ((readG 0 getW s).1 : Nat), .int .i64 (readG 0 getW s).2]) ∧ Below w.heap.size w w' := by
  have heq : ∀ w, (binOp .eql 63 (.func (.func 64) #[] #[.pointer (some ⟨g, 0, none⟩)]) .nilFunc).run Try.prog w = .ok (.bool false) w := fun w => by kernel_rfl
  have HC0 := Lib.hid (Cd2.new w pv (.func (.func 64) #[] #[.pointer (some ⟨g, 0, none⟩)]) 65)
  have HGV : Hid (Gv0 (w.alloc (.cells #[pv, .func (.func 64) #[] #[.pointer (some ⟨g, 0, none⟩)]] 65)) (w.heap.size + 1) g (.func (.func 25) #[] #[])) :=
    Gv0.alloc ⟨hG, by have := World.block_lt_of_cell? _ _ hG; simp at this; omega⟩ _
  have HG := Lib.hid (fun b W (hW : Rd W b s 0) (hV : Gv0 W b g (.func (.func 25) #[] #[])) => getW_any pv b g s 0 W hW hV)
  clear hG
  unfold readG
  revert HG
  generalize verG 0 getW s 0 = G
  obtain ⟨n, r, f⟩ := G
  intro HG
  simp only at HG ⊢
  have HE := Lib.hid (fun b W (hW : Rd W b r f) => end_rd b r f W hW)
  revert HE
  generalize fin r f = y
  intro HE
  obtain ⟨b, hb⟩ : ∃ b, b = w.heap.size + 1 := ⟨_, rfl⟩
  rw [← hb] at HGV
  have HBE := Lib.hid hb
  clear hb
  by_cases hf : y = 0
  · subst hf
    rw [if_pos rfl]
    go_enter Try.func26, Try.ntmps26
    go_wp2_with (first
      | (go_at_call 53; refine (over_at _ b _ (by rw [size1, HBE.out])).mono ?_; rintro e w1 ⟨rfl, hr1, hb1⟩; have HGV1 := Lib.hid (HGV.out.below hb1); have HC1 := Lib.hid (HC0.out.below hb1); have HW1 := Lib.hid (below_step ((Below.refl _ w).alloc (Nat.le_refl _) _) hb1); have qa := HC1.out.c0; have qb := HC1.out.c1)
      | (go_at_call 69; refine (HG.out _ _ hr1 HGV1.out).mono ?_; rintro e w2 ⟨rfl, hr2, hm2⟩; have HW2 : Hid (Below w.heap.size w w2) := HW1.out.trans (hm2.below (by rw [HBE.out]; omega) HW1.out.size))
      | (go_at_call 55; refine (HE.out _ _ hr2).mono ?_; rintro e w3 ⟨rfl, rfl⟩))
    go_ret2
    exact ⟨rfl, HW2.out⟩
  · have hf' : (y != 0) = true := by rw [bne_iff_ne]; exact hf
    rw [if_neg hf]
    go_enter Try.func26, Try.ntmps26
    go_wp2_with (first
      | (go_at_call 53; refine (over_at _ b _ (by rw [size1, HBE.out])).mono ?_; rintro e w1 ⟨rfl, hr1, hb1⟩; have HGV1 := Lib.hid (HGV.out.below hb1); have HC1 := Lib.hid (HC0.out.below hb1); have HW1 := Lib.hid (below_step ((Below.refl _ w).alloc (Nat.le_refl _) _) hb1); have qa := HC1.out.c0; have qb := HC1.out.c1)
      | (go_at_call 69; refine (HG.out _ _ hr1 HGV1.out).mono ?_; rintro e w2 ⟨rfl, hr2, hm2⟩; have HW2 : Hid (Below w.heap.size w w2) := HW1.out.trans (hm2.below (by rw [HBE.out]; omega) HW1.out.size))
      | (go_at_call 55; refine (HE.out _ _ hr2).mono ?_; rintro e w3 ⟨rfl, rfl⟩))
    go_ret2
    exact ⟨rfl, HW2.out⟩
end Go.Proofs.Ytfoijhofpjaldaa
