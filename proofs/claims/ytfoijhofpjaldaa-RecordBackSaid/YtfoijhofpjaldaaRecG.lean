/- The contracts of a versioned codec's get and Read: of a queue, a message. -/
import Derived.Test.YtfoijhofpjaldaaRecE
set_option maxRecDepth 100000
set_option maxHeartbeats 4000000
set_option linter.unusedVariables false
namespace Go.Proofs.Ytfoijhofpjaldaa
open Go.RowKit
theorem cellf (w : World) (o1 : Obj) (x : Value) (T : TypeId) : ((w.alloc o1).alloc (.cells #[x] T)).cell? ⟨w.heap.size + 1, 0, none⟩ = some x := cell2 w o1 x T
theorem over_at (s : ByteArray) (b : Nat) (w : World) (hb : w.heap.size = b) :
    Calls Try.prog 53 #[.string s] w fun e w' => e = .returned (.pointer (some ⟨b, 0, none⟩)) ∧ Rd w' b s 0 ∧ Below w.heap.size w w' := by
  subst hb; exact over_any s w
theorem size3 (w : World) (o1 o2 o3 : Obj) : (((w.alloc o1).alloc o2).alloc o3).heap.size = w.heap.size + 1 + 1 + 1 := by rw [size1, size2]
/-- The box of a codec. -/
structure Cd2 (w : World) (g : Nat) (pv gv : Value) : Prop where
  c0 : w.cell? ⟨g, 0, none⟩ = some pv
  c1 : w.cell? ⟨g, 1, none⟩ = some gv
theorem Cd2.lt {w : World} {g : Nat} {pv gv : Value} (h : Cd2 w g pv gv) : g < w.heap.size := World.block_lt_of_cell? _ _ h.c0
theorem Cd2.keep {w w' : World} {g : Nat} {pv gv : Value} (h : Cd2 w g pv gv) (hk : w'.heap[g]? = w.heap[g]?) : Cd2 w' g pv gv :=
  ⟨(World.cell?_of_block (w := w) hk).trans h.c0, (World.cell?_of_block (w := w) hk).trans h.c1⟩
theorem Cd2.below {w w' : World} {g : Nat} {pv gv : Value} (h : Cd2 w g pv gv) (hb : Below w.heap.size w w') : Cd2 w' g pv gv := h.keep (hb.block g h.lt)
theorem Cd2.mod {w w' : World} {g b : Nat} {pv gv : Value} (h : Cd2 w g pv gv) (hm : Mod b w w') (hne : g ≠ b) : Cd2 w' g pv gv := h.keep (hm.block g h.lt hne)
theorem Cd2.alloc {w : World} {g : Nat} {pv gv : Value} (h : Cd2 w g pv gv) (o : Obj) : Cd2 (w.alloc o) g pv gv := h.below ((Below.refl _ _).alloc (Nat.le_refl _) _)
theorem Cd2.new (w : World) (pv gv : Value) (T : TypeId) : Cd2 (w.alloc (.cells #[pv, gv] T)) w.heap.size pv gv := by constructor <;> simp
theorem idleGQ (p : Addr) (w : World) :
    CallsD Try.prog 84 #[.pointer (some p)] .returning w fun e u' w' => e = .returned (.tuple #[]) ∧ u' = .returning ∧ w' = w := by
  refine callsD_of_wpS Try.func84 rfl fun c₀ cs hu => ?_
  apply wpS_seq
  apply wpS_region
  simp [wpOpsS, go_sem, recoverD, hu, Try.ntmps84, Exit.thenS]
  refine wpS_cond (t := false) (by simp [Act.eval, Array.replicate]) ?_
  simp only [Bool.false_eq_true, if_false]
  refine wpS_of_wp (wp_skip ?_)
  cases c₀
  simp_all [bodyPostS, results, Try.results84]
set_option maxHeartbeats 2000000 in
theorem getQ_any (pv : Value) (b g n : Nat) (nm : ByteArray) (s : ByteArray) (e : Int) (w : World) (h : Rd w b s e) (hG : GvQ w b g n nm) :
    Calls Try.prog 54 #[.agg #[pv, .func (.func 74) #[] #[.pointer (some ⟨g, 0, none⟩)]], .pointer (some ⟨b, 0, none⟩)] w fun x w' => x = .returned (aggQ (verG zQ (getQ nm) s e).1) ∧ Rd w' b (verG zQ (getQ nm) s e).2.1 (verG zQ (getQ nm) s e).2.2 ∧ Mod b w w' := by
  have hmf : ∀ (fn : Fn) (first cap : Array Value) (w : World), (Instr.makeFunc fn first cap).run Try.prog w = .ok (.func fn first cap) w := fun _ _ _ _ => rfl
  have HLT := Lib.hid h.lt
  have HNE : Hid (w.heap.size + 1 + 1 ≠ b) := fun he => by have := HLT.out; omega
  have HR : Hid (∀ o1 o2 o3, Rd (((w.alloc o1).alloc o2).alloc o3) b s e) := fun o1 o2 o3 => ((h.alloc o1).alloc o2).alloc o3
  have HGV : Hid (∀ o1 o2 o3, GvQ (((w.alloc o1).alloc o2).alloc o3) b g n nm) := fun o1 o2 o3 => ((hG.alloc o1).alloc o2).alloc o3
  have HB : Hid (∀ o1 o2, Bx5 (((w.alloc o1).alloc o2).alloc (.cells #[.string ⟨#[]⟩, .int .u32 0, .int .u64 0, .int .u32 0, .string ⟨#[]⟩] 25)) (w.heap.size + 1 + 1) (.string ⟨#[]⟩) (.int .u32 0) (.int .u64 0) (.int .u32 0) (.string ⟨#[]⟩)) := fun o1 o2 => Bx5.new2 w o1 o2 (.string ⟨#[]⟩) (.int .u32 0) (.int .u64 0) (.int .u32 0) (.string ⟨#[]⟩) _
  clear h hG
  have HV := Lib.hid (fun W (hW : Rd W b s e) (hV : GvQ W b g n nm) => vgetQ_any b g n nm s e W hW hV)
  revert HV
  generalize verG zQ (getQ nm) s e = G
  obtain ⟨⟨q0, q1, q2, q3, q4⟩, r, f⟩ := G
  intro HV
  unfold aggQ at HV ⊢
  simp only at HV ⊢
  go_enter_defers Try.func54, Try.ntmps54
  go_wp2_with (go_at_call 74; go_loud (refine (HV.out _ (HR.out _ _ _) (HGV.out _ _ _)).mono ?_; rintro x w1 ⟨rfl, hr1, hm1⟩; obtain ⟨k0, k1, k2, k3, k4, f0, f1, f2, f3, f4⟩ := (HB.out _ _).mod hm1 HNE.out))
  obtain ⟨s0, s1, s2, s3, s4⟩ := stored5 (v0 := .string q0) (v1 := .int .u32 q1) (v2 := .int .u64 q2) (v3 := .int .u32 q3) (v4 := .string q4) k0 k1 k2 k3 k4
  have hbe := fun W v0 v1 v2 v3 v4 => stored5_below (w := W) (v0 := v0) (v1 := v1) (v2 := v2) (v3 := v3) (v4 := v4) (show w.heap.size ≤ w.heap.size + 1 + 1 by omega)
  refine leaves_cons (f := 84) (args := #[.pointer (some ⟨w.heap.size + 1, 0, none⟩)]) (by simp) (by simp [go_sem]) ?_
  refine (idleGQ ⟨w.heap.size + 1, 0, none⟩ _).mono ?_
  rintro e u' w'' ⟨rfl, rfl, rfl⟩
  simp [Leaves, settle, results, Try.results54, go_sem, s0, s1, s2, s3, s4]
  exact ⟨hr1.below' (hbe _ _ _ _ _ _) HLT.out, (Mod.old (Mod.old (Mod.old hm1))).step' (hbe _ _ _ _ _ _)⟩
theorem rrQ {w : World} {g : Nat} {x0 x1 x2 x3 x4 : Value} {e : Int} {tmps : Array Value} (ht : tmps[4]? = some (.pointer (some ⟨g, 0, none⟩))) (h5 : tmps[5]? = some (.int .i64 e))
    (h0 : w.cell? ⟨g, 0, none⟩ = some x0) (h1 : w.cell? ⟨g, 1, none⟩ = some x1) (h2 : w.cell? ⟨g, 2, none⟩ = some x2) (h3 : w.cell? ⟨g, 3, none⟩ = some x3) (h4 : w.cell? ⟨g, 4, none⟩ = some x4) :
    (results Try.f17 tmps).run Try.prog w = .ok (.tuple #[.agg #[x0, x1, x2, x3, x4], .int .i64 e]) w := by
  simp [results, Try.results17, go_sem, ht, h0, h1, h2, h3, h4, h5]
set_option maxHeartbeats 2000000 in
theorem readQ_any (pv : Value) (g n : Nat) (nm : ByteArray) (s : ByteArray) (w : World) (hG : ∀ b, w.heap.size ≤ b → GvQ w b g n nm) :
    Calls Try.prog 17 #[.agg #[pv, .func (.func 74) #[] #[.pointer (some ⟨g, 0, none⟩)]], .string s] w fun x w' => x = .returned (.tuple #[aggQ (readG zQ (getQ nm) s).1, .int .i64 (readG zQ (getQ nm) s).2]) ∧ Below w.heap.size w w' := by
  have heq : ∀ w, (binOp .eql 30 (.func (.func 74) #[] #[.pointer (some ⟨g, 0, none⟩)]) .nilFunc).run Try.prog w = .ok (.bool false) w := fun w => by kernel_rfl
  have HC0 := Lib.hid (((Cd2.new w pv (.func (.func 74) #[] #[.pointer (some ⟨g, 0, none⟩)]) 32).alloc (.cells #[.string ⟨#[]⟩, .int .u32 0, .int .u64 0, .int .u32 0, .string ⟨#[]⟩] 25)).alloc (.cells #[.string ⟨#[]⟩, .int .u32 0, .int .u64 0, .int .u32 0, .string ⟨#[]⟩] 25))
  have HT0 := Lib.hid ((Bx5.new1 w (.cells #[pv, .func (.func 74) #[] #[.pointer (some ⟨g, 0, none⟩)]] 32) (.string ⟨#[]⟩) (.int .u32 0) (.int .u64 0) (.int .u32 0) (.string ⟨#[]⟩) 25).alloc (.cells #[.string ⟨#[]⟩, .int .u32 0, .int .u64 0, .int .u32 0, .string ⟨#[]⟩] 25))
  have HZ0 := Lib.hid (Bx5.new2 w (.cells #[pv, .func (.func 74) #[] #[.pointer (some ⟨g, 0, none⟩)]] 32) (.cells #[.string ⟨#[]⟩, .int .u32 0, .int .u64 0, .int .u32 0, .string ⟨#[]⟩] 25) (.string ⟨#[]⟩) (.int .u32 0) (.int .u64 0) (.int .u32 0) (.string ⟨#[]⟩) 25)
  have HB0 := Lib.hid (below3 w (.cells #[pv, .func (.func 74) #[] #[.pointer (some ⟨g, 0, none⟩)]] 32) (.cells #[.string ⟨#[]⟩, .int .u32 0, .int .u64 0, .int .u32 0, .string ⟨#[]⟩] 25) (.cells #[.string ⟨#[]⟩, .int .u32 0, .int .u64 0, .int .u32 0, .string ⟨#[]⟩] 25))
  have HSZ := Lib.hid (size3 w (.cells #[pv, .func (.func 74) #[] #[.pointer (some ⟨g, 0, none⟩)]] 32) (.cells #[.string ⟨#[]⟩, .int .u32 0, .int .u64 0, .int .u32 0, .string ⟨#[]⟩] 25) (.cells #[.string ⟨#[]⟩, .int .u32 0, .int .u64 0, .int .u32 0, .string ⟨#[]⟩] 25))
  have HGV := Lib.hid (fun b (hb : w.heap.size ≤ b) => (((hG b hb).alloc (.cells #[pv, .func (.func 74) #[] #[.pointer (some ⟨g, 0, none⟩)]] 32)).alloc (.cells #[.string ⟨#[]⟩, .int .u32 0, .int .u64 0, .int .u32 0, .string ⟨#[]⟩] 25)).alloc (.cells #[.string ⟨#[]⟩, .int .u32 0, .int .u64 0, .int .u32 0, .string ⟨#[]⟩] 25))
  have HG := Lib.hid (fun b W (hW : Rd W b s 0) (hV : GvQ W b g n nm) => getQ_any pv b g n nm s 0 W hW hV)
  clear hG
  unfold readG
  revert HG
  generalize verG zQ (getQ nm) s 0 = G
  obtain ⟨⟨q0, q1, q2, q3, q4⟩, r, f⟩ := G
  intro HG
  simp only at HG ⊢
  have HE := Lib.hid (fun b W (hW : Rd W b r f) => end_rd b r f W hW)
  revert HE
  generalize fin r f = y
  intro HE
  unfold aggQ at HG ⊢
  simp only at HG
  by_cases hf : y = 0
  · subst hf
    rw [if_pos rfl]
    obtain ⟨b, hb⟩ : ∃ b, b = w.heap.size + 1 + 1 + 1 := ⟨_, rfl⟩
    have HBE := Lib.hid hb
    clear hb
    go_enter Try.func17, Try.ntmps17
    go_wp2_with (first
      | (go_at_call 53; refine (over_at _ b _ (by rw [HSZ.out, HBE.out])).mono ?_; rintro e w1 ⟨rfl, hr1, hb1⟩; have HC1 := Lib.hid (HC0.out.below hb1); have HT1 := Lib.hid (HT0.out.below hb1); have HGV1 := Lib.hid ((HGV.out b (by rw [HBE.out]; omega)).below hb1); have HW1 := Lib.hid (below_step HB0.out hb1); have qa := HC1.out.c0; have qb := HC1.out.c1)
      | (go_at_call 54; refine (HG.out _ _ hr1 HGV1.out).mono ?_; rintro e w2 ⟨rfl, hr2, hm2⟩; have HW2 : Hid (Below w.heap.size w (w2.alloc (.cells #[.string q0, .int .u32 q1, .int .u64 q2, .int .u32 q3, .string q4] 25))) := (HW1.out.trans (hm2.below (by rw [HBE.out]; omega) HW1.out.size)).alloc (Nat.le_trans HW1.out.size hm2.size) _; have HT2 := Lib.hid ((HT1.out.mod hm2 (by rw [HBE.out]; omega)).alloc (.cells #[.string q0, .int .u32 q1, .int .u64 q2, .int .u32 q3, .string q4] 25)))
      | (go_at_call 55; refine (HE.out _ _ (hr2.alloc _)).mono ?_; rintro e w3 ⟨rfl, rfl⟩; obtain ⟨k0, k1, k2, k3, k4, f0, f1, f2, f3, f4⟩ := HT2.out))
    obtain ⟨s0, s1, s2, s3, s4⟩ := stored5 (v0 := .string q0) (v1 := .int .u32 q1) (v2 := .int .u64 q2) (v3 := .int .u32 q3) (v4 := .string q4) k0 k1 k2 k3 k4
    exact bodyPost_ret_by (rrQ rfl rfl s0 s1 s2 s3 s4) rfl ⟨rfl, HW2.out.trans (stored5_below (show w.heap.size ≤ w.heap.size + 1 by omega))⟩
  · have hf' : (y != 0) = true := by rw [bne_iff_ne]; exact hf
    rw [if_neg hf]
    obtain ⟨b, hb⟩ : ∃ b, b = w.heap.size + 1 + 1 + 1 := ⟨_, rfl⟩
    have HBE := Lib.hid hb
    clear hb
    go_enter Try.func17, Try.ntmps17
    go_wp2_with (first
      | (go_at_call 53; refine (over_at _ b _ (by rw [HSZ.out, HBE.out])).mono ?_; rintro e w1 ⟨rfl, hr1, hb1⟩; have HC1 := Lib.hid (HC0.out.below hb1); have HT1 := Lib.hid (HT0.out.below hb1); have HZ1 := Lib.hid (HZ0.out.below hb1); have HGV1 := Lib.hid ((HGV.out b (by rw [HBE.out]; omega)).below hb1); have HW1 := Lib.hid (below_step HB0.out hb1); have qa := HC1.out.c0; have qb := HC1.out.c1)
      | (go_at_call 54; refine (HG.out _ _ hr1 HGV1.out).mono ?_; rintro e w2 ⟨rfl, hr2, hm2⟩; have HW2 : Hid (Below w.heap.size w (w2.alloc (.cells #[.string q0, .int .u32 q1, .int .u64 q2, .int .u32 q3, .string q4] 25))) := (HW1.out.trans (hm2.below (by rw [HBE.out]; omega) HW1.out.size)).alloc (Nat.le_trans HW1.out.size hm2.size) _; have HT2 := Lib.hid ((HT1.out.mod hm2 (by rw [HBE.out]; omega)).alloc (.cells #[.string q0, .int .u32 q1, .int .u64 q2, .int .u32 q3, .string q4] 25)); have HZ2 := Lib.hid ((HZ1.out.mod hm2 (by rw [HBE.out]; omega)).alloc (.cells #[.string q0, .int .u32 q1, .int .u64 q2, .int .u32 q3, .string q4] 25)))
      | (go_at_call 55; refine (HE.out _ _ (hr2.alloc _)).mono ?_; rintro e w3 ⟨rfl, rfl⟩; obtain ⟨k0, k1, k2, k3, k4, f0, f1, f2, f3, f4⟩ := HT2.out; obtain ⟨z0, z1, z2, z3, z4, _, _, _, _, _⟩ := HZ2.out))
    obtain ⟨s0, s1, s2, s3, s4⟩ := stored5 (v0 := .string ⟨#[]⟩) (v1 := .int .u32 0) (v2 := .int .u64 0) (v3 := .int .u32 0) (v4 := .string ⟨#[]⟩) k0 k1 k2 k3 k4
    exact bodyPost_ret_by (rrQ rfl rfl s0 s1 s2 s3 s4) rfl ⟨rfl, HW2.out.trans (stored5_below (show w.heap.size ≤ w.heap.size + 1 by omega))⟩
theorem idleGM (p : Addr) (w : World) :
    CallsD Try.prog 88 #[.pointer (some p)] .returning w fun e u' w' => e = .returned (.tuple #[]) ∧ u' = .returning ∧ w' = w := by
  refine callsD_of_wpS Try.func88 rfl fun c₀ cs hu => ?_
  apply wpS_seq
  apply wpS_region
  simp [wpOpsS, go_sem, recoverD, hu, Try.ntmps88, Exit.thenS]
  refine wpS_cond (t := false) (by simp [Act.eval, Array.replicate]) ?_
  simp only [Bool.false_eq_true, if_false]
  refine wpS_of_wp (wp_skip ?_)
  cases c₀
  simp_all [bodyPostS, results, Try.results88]
set_option maxHeartbeats 2000000 in
theorem getM_any (pv : Value) (b g n c : Nat) (nm : ByteArray) (i : Nat) (s : ByteArray) (e : Int) (w : World) (h : Rd w b s e) (hG : GvM w b g n c nm i) :
    Calls Try.prog 60 #[.agg #[pv, .func (.func 76) #[] #[.pointer (some ⟨g, 0, none⟩)]], .pointer (some ⟨b, 0, none⟩)] w fun x w' => x = .returned (aggM (verG zM (getM nm i) s e).1) ∧ Rd w' b (verG zM (getM nm i) s e).2.1 (verG zM (getM nm i) s e).2.2 ∧ Mod b w w' := by
  have hmf : ∀ (fn : Fn) (first cap : Array Value) (w : World), (Instr.makeFunc fn first cap).run Try.prog w = .ok (.func fn first cap) w := fun _ _ _ _ => rfl
  have HLT := Lib.hid h.lt
  have HNE : Hid (w.heap.size + 1 + 1 ≠ b) := fun he => by have := HLT.out; omega
  have HR : Hid (∀ o1 o2 o3, Rd (((w.alloc o1).alloc o2).alloc o3) b s e) := fun o1 o2 o3 => ((h.alloc o1).alloc o2).alloc o3
  have HGV : Hid (∀ o1 o2 o3, GvM (((w.alloc o1).alloc o2).alloc o3) b g n c nm i) := fun o1 o2 o3 => ((hG.alloc o1).alloc o2).alloc o3
  have HB : Hid (∀ o1 o2, Bx5 (((w.alloc o1).alloc o2).alloc (.cells #[.string ⟨#[]⟩, .int .u64 0, .int .u32 0, .int .u64 0, .string ⟨#[]⟩] 27)) (w.heap.size + 1 + 1) (.string ⟨#[]⟩) (.int .u64 0) (.int .u32 0) (.int .u64 0) (.string ⟨#[]⟩)) := fun o1 o2 => Bx5.new2 w o1 o2 (.string ⟨#[]⟩) (.int .u64 0) (.int .u32 0) (.int .u64 0) (.string ⟨#[]⟩) _
  clear h hG
  have HV := Lib.hid (fun W (hW : Rd W b s e) (hV : GvM W b g n c nm i) => vgetM_any b g n c nm i s e W hW hV)
  revert HV
  generalize verG zM (getM nm i) s e = G
  obtain ⟨⟨q0, q1, q2, q3, q4⟩, r, f⟩ := G
  intro HV
  unfold aggM at HV ⊢
  simp only at HV ⊢
  go_enter_defers Try.func60, Try.ntmps60
  go_wp2_with (go_at_call 76; go_loud (refine (HV.out _ (HR.out _ _ _) (HGV.out _ _ _)).mono ?_; rintro x w1 ⟨rfl, hr1, hm1⟩; obtain ⟨k0, k1, k2, k3, k4, f0, f1, f2, f3, f4⟩ := (HB.out _ _).mod hm1 HNE.out))
  obtain ⟨s0, s1, s2, s3, s4⟩ := stored5 (v0 := .string q0) (v1 := .int .u64 q1) (v2 := .int .u32 q2) (v3 := .int .u64 q3) (v4 := .string q4) k0 k1 k2 k3 k4
  have hbe := fun W v0 v1 v2 v3 v4 => stored5_below (w := W) (v0 := v0) (v1 := v1) (v2 := v2) (v3 := v3) (v4 := v4) (show w.heap.size ≤ w.heap.size + 1 + 1 by omega)
  refine leaves_cons (f := 88) (args := #[.pointer (some ⟨w.heap.size + 1, 0, none⟩)]) (by simp) (by simp [go_sem]) ?_
  refine (idleGM ⟨w.heap.size + 1, 0, none⟩ _).mono ?_
  rintro e u' w'' ⟨rfl, rfl, rfl⟩
  simp [Leaves, settle, results, Try.results60, go_sem, s0, s1, s2, s3, s4]
  exact ⟨hr1.below' (hbe _ _ _ _ _ _) HLT.out, (Mod.old (Mod.old (Mod.old hm1))).step' (hbe _ _ _ _ _ _)⟩
theorem rrM {w : World} {g : Nat} {x0 x1 x2 x3 x4 : Value} {e : Int} {tmps : Array Value} (ht : tmps[4]? = some (.pointer (some ⟨g, 0, none⟩))) (h5 : tmps[5]? = some (.int .i64 e))
    (h0 : w.cell? ⟨g, 0, none⟩ = some x0) (h1 : w.cell? ⟨g, 1, none⟩ = some x1) (h2 : w.cell? ⟨g, 2, none⟩ = some x2) (h3 : w.cell? ⟨g, 3, none⟩ = some x3) (h4 : w.cell? ⟨g, 4, none⟩ = some x4) :
    (results Try.f19 tmps).run Try.prog w = .ok (.tuple #[.agg #[x0, x1, x2, x3, x4], .int .i64 e]) w := by
  simp [results, Try.results19, go_sem, ht, h0, h1, h2, h3, h4, h5]
set_option maxHeartbeats 2000000 in
theorem readM_any (pv : Value) (g n c : Nat) (nm : ByteArray) (i : Nat) (s : ByteArray) (w : World) (hG : ∀ b, w.heap.size ≤ b → GvM w b g n c nm i) :
    Calls Try.prog 19 #[.agg #[pv, .func (.func 76) #[] #[.pointer (some ⟨g, 0, none⟩)]], .string s] w fun x w' => x = .returned (.tuple #[aggM (readG zM (getM nm i) s).1, .int .i64 (readG zM (getM nm i) s).2]) ∧ Below w.heap.size w w' := by
  have heq : ∀ w, (binOp .eql 35 (.func (.func 76) #[] #[.pointer (some ⟨g, 0, none⟩)]) .nilFunc).run Try.prog w = .ok (.bool false) w := fun w => by kernel_rfl
  have HC0 := Lib.hid (((Cd2.new w pv (.func (.func 76) #[] #[.pointer (some ⟨g, 0, none⟩)]) 37).alloc (.cells #[.string ⟨#[]⟩, .int .u64 0, .int .u32 0, .int .u64 0, .string ⟨#[]⟩] 27)).alloc (.cells #[.string ⟨#[]⟩, .int .u64 0, .int .u32 0, .int .u64 0, .string ⟨#[]⟩] 27))
  have HT0 := Lib.hid ((Bx5.new1 w (.cells #[pv, .func (.func 76) #[] #[.pointer (some ⟨g, 0, none⟩)]] 37) (.string ⟨#[]⟩) (.int .u64 0) (.int .u32 0) (.int .u64 0) (.string ⟨#[]⟩) 27).alloc (.cells #[.string ⟨#[]⟩, .int .u64 0, .int .u32 0, .int .u64 0, .string ⟨#[]⟩] 27))
  have HZ0 := Lib.hid (Bx5.new2 w (.cells #[pv, .func (.func 76) #[] #[.pointer (some ⟨g, 0, none⟩)]] 37) (.cells #[.string ⟨#[]⟩, .int .u64 0, .int .u32 0, .int .u64 0, .string ⟨#[]⟩] 27) (.string ⟨#[]⟩) (.int .u64 0) (.int .u32 0) (.int .u64 0) (.string ⟨#[]⟩) 27)
  have HB0 := Lib.hid (below3 w (.cells #[pv, .func (.func 76) #[] #[.pointer (some ⟨g, 0, none⟩)]] 37) (.cells #[.string ⟨#[]⟩, .int .u64 0, .int .u32 0, .int .u64 0, .string ⟨#[]⟩] 27) (.cells #[.string ⟨#[]⟩, .int .u64 0, .int .u32 0, .int .u64 0, .string ⟨#[]⟩] 27))
  have HSZ := Lib.hid (size3 w (.cells #[pv, .func (.func 76) #[] #[.pointer (some ⟨g, 0, none⟩)]] 37) (.cells #[.string ⟨#[]⟩, .int .u64 0, .int .u32 0, .int .u64 0, .string ⟨#[]⟩] 27) (.cells #[.string ⟨#[]⟩, .int .u64 0, .int .u32 0, .int .u64 0, .string ⟨#[]⟩] 27))
  have HGV := Lib.hid (fun b (hb : w.heap.size ≤ b) => (((hG b hb).alloc (.cells #[pv, .func (.func 76) #[] #[.pointer (some ⟨g, 0, none⟩)]] 37)).alloc (.cells #[.string ⟨#[]⟩, .int .u64 0, .int .u32 0, .int .u64 0, .string ⟨#[]⟩] 27)).alloc (.cells #[.string ⟨#[]⟩, .int .u64 0, .int .u32 0, .int .u64 0, .string ⟨#[]⟩] 27))
  have HG := Lib.hid (fun b W (hW : Rd W b s 0) (hV : GvM W b g n c nm i) => getM_any pv b g n c nm i s 0 W hW hV)
  clear hG
  unfold readG
  revert HG
  generalize verG zM (getM nm i) s 0 = G
  obtain ⟨⟨q0, q1, q2, q3, q4⟩, r, f⟩ := G
  intro HG
  simp only at HG ⊢
  have HE := Lib.hid (fun b W (hW : Rd W b r f) => end_rd b r f W hW)
  revert HE
  generalize fin r f = y
  intro HE
  unfold aggM at HG ⊢
  simp only at HG
  by_cases hf : y = 0
  · subst hf
    rw [if_pos rfl]
    obtain ⟨b, hb⟩ : ∃ b, b = w.heap.size + 1 + 1 + 1 := ⟨_, rfl⟩
    have HBE := Lib.hid hb
    clear hb
    go_enter Try.func19, Try.ntmps19
    go_wp2_with (first
      | (go_at_call 53; refine (over_at _ b _ (by rw [HSZ.out, HBE.out])).mono ?_; rintro e w1 ⟨rfl, hr1, hb1⟩; have HC1 := Lib.hid (HC0.out.below hb1); have HT1 := Lib.hid (HT0.out.below hb1); have HGV1 := Lib.hid ((HGV.out b (by rw [HBE.out]; omega)).below hb1); have HW1 := Lib.hid (below_step HB0.out hb1); have qa := HC1.out.c0; have qb := HC1.out.c1)
      | (go_at_call 60; refine (HG.out _ _ hr1 HGV1.out).mono ?_; rintro e w2 ⟨rfl, hr2, hm2⟩; have HW2 : Hid (Below w.heap.size w (w2.alloc (.cells #[.string q0, .int .u64 q1, .int .u32 q2, .int .u64 q3, .string q4] 27))) := (HW1.out.trans (hm2.below (by rw [HBE.out]; omega) HW1.out.size)).alloc (Nat.le_trans HW1.out.size hm2.size) _; have HT2 := Lib.hid ((HT1.out.mod hm2 (by rw [HBE.out]; omega)).alloc (.cells #[.string q0, .int .u64 q1, .int .u32 q2, .int .u64 q3, .string q4] 27)))
      | (go_at_call 55; refine (HE.out _ _ (hr2.alloc _)).mono ?_; rintro e w3 ⟨rfl, rfl⟩; obtain ⟨k0, k1, k2, k3, k4, f0, f1, f2, f3, f4⟩ := HT2.out))
    obtain ⟨s0, s1, s2, s3, s4⟩ := stored5 (v0 := .string q0) (v1 := .int .u64 q1) (v2 := .int .u32 q2) (v3 := .int .u64 q3) (v4 := .string q4) k0 k1 k2 k3 k4
    exact bodyPost_ret_by (rrM rfl rfl s0 s1 s2 s3 s4) rfl ⟨rfl, HW2.out.trans (stored5_below (show w.heap.size ≤ w.heap.size + 1 by omega))⟩
  · have hf' : (y != 0) = true := by rw [bne_iff_ne]; exact hf
    rw [if_neg hf]
    obtain ⟨b, hb⟩ : ∃ b, b = w.heap.size + 1 + 1 + 1 := ⟨_, rfl⟩
    have HBE := Lib.hid hb
    clear hb
    go_enter Try.func19, Try.ntmps19
    go_wp2_with (first
      | (go_at_call 53; refine (over_at _ b _ (by rw [HSZ.out, HBE.out])).mono ?_; rintro e w1 ⟨rfl, hr1, hb1⟩; have HC1 := Lib.hid (HC0.out.below hb1); have HT1 := Lib.hid (HT0.out.below hb1); have HZ1 := Lib.hid (HZ0.out.below hb1); have HGV1 := Lib.hid ((HGV.out b (by rw [HBE.out]; omega)).below hb1); have HW1 := Lib.hid (below_step HB0.out hb1); have qa := HC1.out.c0; have qb := HC1.out.c1)
      | (go_at_call 60; refine (HG.out _ _ hr1 HGV1.out).mono ?_; rintro e w2 ⟨rfl, hr2, hm2⟩; have HW2 : Hid (Below w.heap.size w (w2.alloc (.cells #[.string q0, .int .u64 q1, .int .u32 q2, .int .u64 q3, .string q4] 27))) := (HW1.out.trans (hm2.below (by rw [HBE.out]; omega) HW1.out.size)).alloc (Nat.le_trans HW1.out.size hm2.size) _; have HT2 := Lib.hid ((HT1.out.mod hm2 (by rw [HBE.out]; omega)).alloc (.cells #[.string q0, .int .u64 q1, .int .u32 q2, .int .u64 q3, .string q4] 27)); have HZ2 := Lib.hid ((HZ1.out.mod hm2 (by rw [HBE.out]; omega)).alloc (.cells #[.string q0, .int .u64 q1, .int .u32 q2, .int .u64 q3, .string q4] 27)))
      | (go_at_call 55; refine (HE.out _ _ (hr2.alloc _)).mono ?_; rintro e w3 ⟨rfl, rfl⟩; obtain ⟨k0, k1, k2, k3, k4, f0, f1, f2, f3, f4⟩ := HT2.out; obtain ⟨z0, z1, z2, z3, z4, _, _, _, _, _⟩ := HZ2.out))
    obtain ⟨s0, s1, s2, s3, s4⟩ := stored5 (v0 := .string ⟨#[]⟩) (v1 := .int .u64 0) (v2 := .int .u32 0) (v3 := .int .u64 0) (v4 := .string ⟨#[]⟩) k0 k1 k2 k3 k4
    exact bodyPost_ret_by (rrM rfl rfl s0 s1 s2 s3 s4) rfl ⟨rfl, HW2.out.trans (stored5_below (show w.heap.size ≤ w.heap.size + 1 by omega))⟩
end Go.Proofs.Ytfoijhofpjaldaa
