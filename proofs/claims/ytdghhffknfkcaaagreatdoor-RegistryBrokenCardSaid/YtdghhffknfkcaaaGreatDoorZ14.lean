/- Texts of one seat, merged. -/
import Derived.Test.YtdghhffknfkcaaaGreatDoorZ13
set_option maxRecDepth 100000
set_option maxHeartbeats 4000000
set_option linter.unusedVariables false
/- The contracts of a versioned codec's get and Read: of a queue, a message. -/
namespace Go.Proofs.YtdghhffknfkcaaaGreatDoor
open Go.RowKit
theorem cellf (w : World) (o1 : Obj) (x : Value) (T : TypeId) : ((w.alloc o1).alloc (.cells #[x] T)).cell? ⟨w.heap.size + 1, 0, none⟩ = some x := cell2 w o1 x T
theorem over_at (s : ByteArray) (b : Nat) (w : World) (hb : w.heap.size = b) :
    Calls Tryz.prog 20 #[.string s] w fun e w' => e = .returned (.pointer (some ⟨b, 0, none⟩)) ∧ Rd w' b s 0 ∧ Below w.heap.size w w' := by
  subst hb; exact over_any s w
theorem size3 (w : World) (o1 o2 o3 : Obj) : (((w.alloc o1).alloc o2).alloc o3).heap.size = w.heap.size + 1 + 1 + 1 := by rw [size1, size2]
/-- The box of a codec. -/
structure Cd2 (w : World) (g : Nat) (pv gv : Value) : Prop where
  c0 : w.cell? ⟨g, 0, none⟩ = some pv
  c1 : w.cell? ⟨g, 1, none⟩ = some gv
theorem Cd2.lt {w : World} {g : Nat} {pv gv : Value} (h : Cd2 w g pv gv) : g < w.heap.size := World.block_lt_of_cell? _ _ h.c0
theorem Cd2.keep {w w' : World} {g : Nat} {pv gv : Value} (h : Cd2 w g pv gv) (hk : w'.heap[g]? = w.heap[g]?) : Cd2 w' g pv gv :=
  ⟨(World.cell?_of_block (w := w) hk).trans h.c0, (World.cell?_of_block (w := w) hk).trans h.c1⟩
theorem Cd2.below {w w' : World} {g : Nat} {pv gv : Value} (h : Cd2 w g pv gv) (hb : Below w.heap.size w w') : Cd2 w' g pv gv := h.keep (hb.block g h.lt)
theorem Cd2.mod {w w' : World} {g b : Nat} {pv gv : Value} (h : Cd2 w g pv gv) (hm : Mod b w w') (hne : g ≠ b) : Cd2 w' g pv gv := h.keep (hm.block g h.lt hne)
theorem Cd2.alloc {w : World} {g : Nat} {pv gv : Value} (h : Cd2 w g pv gv) (o : Obj) : Cd2 (w.alloc o) g pv gv := h.below ((Below.refl _ _).alloc (Nat.le_refl _) _)
theorem Cd2.new (w : World) (pv gv : Value) (T : TypeId) : Cd2 (w.alloc (.cells #[pv, gv] T)) w.heap.size pv gv := by constructor <;> simp
theorem idleGQ (p : Addr) (w : World) :
    CallsD Tryz.prog 160 #[.pointer (some p)] .returning w fun e u' w' => e = .returned (.tuple #[]) ∧ u' = .returning ∧ w' = w := by
  refine callsD_of_wpS Tryz.func160 rfl fun c₀ cs hu => ?_
  apply wpS_seq
  apply wpS_region
  simp [wpOpsS, go_sem, recoverD, hu, Tryz.ntmps160, Exit.thenS]
  refine wpS_cond (t := false) (by simp [Act.eval, Array.replicate]) ?_
  simp only [Bool.false_eq_true, if_false]
  refine wpS_of_wp (wp_skip ?_)
  cases c₀
  simp_all [bodyPostS, results, Tryz.results160]
set_option maxHeartbeats 2000000 in
theorem getQ_any (pv : Value) (b g n : Nat) (nm : ByteArray) (s : ByteArray) (e : Int) (w : World) (h : Rd w b s e) (hG : GvQ w b g n nm) :
    Calls Tryz.prog 119 #[.agg #[pv, .func (.func 134) #[] #[.pointer (some ⟨g, 0, none⟩)]], .pointer (some ⟨b, 0, none⟩)] w fun x w' => x = .returned (aggQ (verG zQ (getQ nm) s e).1) ∧ Rd w' b (verG zQ (getQ nm) s e).2.1 (verG zQ (getQ nm) s e).2.2 ∧ Mod b w w' := by
  have hmf : ∀ (fn : Fn) (first cap : Array Value) (w : World), (Instr.makeFunc fn first cap).run Tryz.prog w = .ok (.func fn first cap) w := fun _ _ _ _ => rfl
  have HLT := Lib.hid h.lt
  have HNE : Hid (w.heap.size + 1 + 1 ≠ b) := fun he => by have := HLT.out; omega
  have HR : Hid (∀ o1 o2 o3, Rd (((w.alloc o1).alloc o2).alloc o3) b s e) := fun o1 o2 o3 => ((h.alloc o1).alloc o2).alloc o3
  have HGV : Hid (∀ o1 o2 o3, GvQ (((w.alloc o1).alloc o2).alloc o3) b g n nm) := fun o1 o2 o3 => ((hG.alloc o1).alloc o2).alloc o3
  have HB : Hid (∀ o1 o2, Bx5 (((w.alloc o1).alloc o2).alloc (.cells #[.string ⟨#[]⟩, .int .u32 0, .int .u64 0, .int .u32 0, .string ⟨#[]⟩] 36)) (w.heap.size + 1 + 1) (.string ⟨#[]⟩) (.int .u32 0) (.int .u64 0) (.int .u32 0) (.string ⟨#[]⟩)) := fun o1 o2 => Bx5.new2 w o1 o2 (.string ⟨#[]⟩) (.int .u32 0) (.int .u64 0) (.int .u32 0) (.string ⟨#[]⟩) _
  clear h hG
  have HV := Lib.hid (fun W (hW : Rd W b s e) (hV : GvQ W b g n nm) => vgetQ_any b g n nm s e W hW hV)
  revert HV
  generalize verG zQ (getQ nm) s e = G
  obtain ⟨⟨q0, q1, q2, q3, q4⟩, r, f⟩ := G
  intro HV
  unfold aggQ at HV ⊢
  simp only at HV ⊢
  go_enter_defers Tryz.func119, Tryz.ntmps119
  go_wp2_with (go_at_call 134; go_loud (refine (HV.out _ (HR.out _ _ _) (HGV.out _ _ _)).mono ?_; rintro x w1 ⟨rfl, hr1, hm1⟩; obtain ⟨k0, k1, k2, k3, k4, f0, f1, f2, f3, f4⟩ := (HB.out _ _).mod hm1 HNE.out))
  obtain ⟨s0, s1, s2, s3, s4⟩ := stored5 (v0 := .string q0) (v1 := .int .u32 q1) (v2 := .int .u64 q2) (v3 := .int .u32 q3) (v4 := .string q4) k0 k1 k2 k3 k4
  have hbe := fun W v0 v1 v2 v3 v4 => stored5_below (w := W) (v0 := v0) (v1 := v1) (v2 := v2) (v3 := v3) (v4 := v4) (show w.heap.size ≤ w.heap.size + 1 + 1 by omega)
  refine leaves_cons (f := 160) (args := #[.pointer (some ⟨w.heap.size + 1, 0, none⟩)]) (by simp) (by simp [go_sem]) ?_
  refine (idleGQ ⟨w.heap.size + 1, 0, none⟩ _).mono ?_
  rintro e u' w'' ⟨rfl, rfl, rfl⟩
  simp [Leaves, settle, results, Tryz.results119, go_sem, s0, s1, s2, s3, s4]
  exact ⟨hr1.below' (hbe _ _ _ _ _ _) HLT.out, (Mod.old (Mod.old (Mod.old hm1))).step' (hbe _ _ _ _ _ _)⟩
theorem rrQ {w : World} {g : Nat} {x0 x1 x2 x3 x4 : Value} {e : Int} {tmps : Array Value} (ht : tmps[4]? = some (.pointer (some ⟨g, 0, none⟩))) (h5 : tmps[5]? = some (.int .i64 e))
    (h0 : w.cell? ⟨g, 0, none⟩ = some x0) (h1 : w.cell? ⟨g, 1, none⟩ = some x1) (h2 : w.cell? ⟨g, 2, none⟩ = some x2) (h3 : w.cell? ⟨g, 3, none⟩ = some x3) (h4 : w.cell? ⟨g, 4, none⟩ = some x4) :
    (results Tryz.f77 tmps).run Tryz.prog w = .ok (.tuple #[.agg #[x0, x1, x2, x3, x4], .int .i64 e]) w := by
  simp [results, Tryz.results77, go_sem, ht, h0, h1, h2, h3, h4, h5]
set_option maxHeartbeats 2000000 in
theorem readQ_any (pv : Value) (g n : Nat) (nm : ByteArray) (s : ByteArray) (w : World) (hG : ∀ b, w.heap.size ≤ b → GvQ w b g n nm) :
    Calls Tryz.prog 77 #[.agg #[pv, .func (.func 134) #[] #[.pointer (some ⟨g, 0, none⟩)]], .string s] w fun x w' => x = .returned (.tuple #[aggQ (readG zQ (getQ nm) s).1, .int .i64 (readG zQ (getQ nm) s).2]) ∧ Below w.heap.size w w' := by
  have heq : ∀ w, (binOp .eql 109 (.func (.func 134) #[] #[.pointer (some ⟨g, 0, none⟩)]) .nilFunc).run Tryz.prog w = .ok (.bool false) w := fun w => by kernel_rfl
  have HC0 := Lib.hid (((Cd2.new w pv (.func (.func 134) #[] #[.pointer (some ⟨g, 0, none⟩)]) 111).alloc (.cells #[.string ⟨#[]⟩, .int .u32 0, .int .u64 0, .int .u32 0, .string ⟨#[]⟩] 36)).alloc (.cells #[.string ⟨#[]⟩, .int .u32 0, .int .u64 0, .int .u32 0, .string ⟨#[]⟩] 36))
  have HT0 := Lib.hid ((Bx5.new1 w (.cells #[pv, .func (.func 134) #[] #[.pointer (some ⟨g, 0, none⟩)]] 111) (.string ⟨#[]⟩) (.int .u32 0) (.int .u64 0) (.int .u32 0) (.string ⟨#[]⟩) 36).alloc (.cells #[.string ⟨#[]⟩, .int .u32 0, .int .u64 0, .int .u32 0, .string ⟨#[]⟩] 36))
  have HZ0 := Lib.hid (Bx5.new2 w (.cells #[pv, .func (.func 134) #[] #[.pointer (some ⟨g, 0, none⟩)]] 111) (.cells #[.string ⟨#[]⟩, .int .u32 0, .int .u64 0, .int .u32 0, .string ⟨#[]⟩] 36) (.string ⟨#[]⟩) (.int .u32 0) (.int .u64 0) (.int .u32 0) (.string ⟨#[]⟩) 36)
  have HB0 := Lib.hid (below3 w (.cells #[pv, .func (.func 134) #[] #[.pointer (some ⟨g, 0, none⟩)]] 111) (.cells #[.string ⟨#[]⟩, .int .u32 0, .int .u64 0, .int .u32 0, .string ⟨#[]⟩] 36) (.cells #[.string ⟨#[]⟩, .int .u32 0, .int .u64 0, .int .u32 0, .string ⟨#[]⟩] 36))
  have HSZ := Lib.hid (size3 w (.cells #[pv, .func (.func 134) #[] #[.pointer (some ⟨g, 0, none⟩)]] 111) (.cells #[.string ⟨#[]⟩, .int .u32 0, .int .u64 0, .int .u32 0, .string ⟨#[]⟩] 36) (.cells #[.string ⟨#[]⟩, .int .u32 0, .int .u64 0, .int .u32 0, .string ⟨#[]⟩] 36))
  have HGV := Lib.hid (fun b (hb : w.heap.size ≤ b) => (((hG b hb).alloc (.cells #[pv, .func (.func 134) #[] #[.pointer (some ⟨g, 0, none⟩)]] 111)).alloc (.cells #[.string ⟨#[]⟩, .int .u32 0, .int .u64 0, .int .u32 0, .string ⟨#[]⟩] 36)).alloc (.cells #[.string ⟨#[]⟩, .int .u32 0, .int .u64 0, .int .u32 0, .string ⟨#[]⟩] 36))
  have HG := Lib.hid (fun b W (hW : Rd W b s 0) (hV : GvQ W b g n nm) => getQ_any pv b g n nm s 0 W hW hV)
  clear hG
  unfold readG
  revert HG
  generalize verG zQ (getQ nm) s 0 = G
  obtain ⟨⟨q0, q1, q2, q3, q4⟩, r, f⟩ := G
  intro HG
  simp only at HG ⊢
  have HE := Lib.hid (fun b W (hW : Rd W b r f) => end_rd b r f W hW)
  revert HE
  generalize fin r f = y
  intro HE
  unfold aggQ at HG ⊢
  simp only at HG
  by_cases hf : y = 0
  · subst hf
    rw [if_pos rfl]
    obtain ⟨b, hb⟩ : ∃ b, b = w.heap.size + 1 + 1 + 1 := ⟨_, rfl⟩
    have HBE := Lib.hid hb
    clear hb
    go_enter Tryz.func77, Tryz.ntmps77
    go_wp2_with (first
      | (go_at_call 20; refine (over_at _ b _ (by rw [HSZ.out, HBE.out])).mono ?_; rintro e w1 ⟨rfl, hr1, hb1⟩; have HC1 := Lib.hid (HC0.out.below hb1); have HT1 := Lib.hid (HT0.out.below hb1); have HGV1 := Lib.hid ((HGV.out b (by rw [HBE.out]; omega)).below hb1); have HW1 := Lib.hid (below_step HB0.out hb1); have qa := HC1.out.c0; have qb := HC1.out.c1)
      | (go_at_call 119; refine (HG.out _ _ hr1 HGV1.out).mono ?_; rintro e w2 ⟨rfl, hr2, hm2⟩; have HW2 : Hid (Below w.heap.size w (w2.alloc (.cells #[.string q0, .int .u32 q1, .int .u64 q2, .int .u32 q3, .string q4] 36))) := (HW1.out.trans (hm2.below (by rw [HBE.out]; omega) HW1.out.size)).alloc (Nat.le_trans HW1.out.size hm2.size) _; have HT2 := Lib.hid ((HT1.out.mod hm2 (by rw [HBE.out]; omega)).alloc (.cells #[.string q0, .int .u32 q1, .int .u64 q2, .int .u32 q3, .string q4] 36)))
      | (go_at_call 105; refine (HE.out _ _ (hr2.alloc _)).mono ?_; rintro e w3 ⟨rfl, rfl⟩; obtain ⟨k0, k1, k2, k3, k4, f0, f1, f2, f3, f4⟩ := HT2.out))
    obtain ⟨s0, s1, s2, s3, s4⟩ := stored5 (v0 := .string q0) (v1 := .int .u32 q1) (v2 := .int .u64 q2) (v3 := .int .u32 q3) (v4 := .string q4) k0 k1 k2 k3 k4
    exact bodyPost_ret_by (rrQ rfl rfl s0 s1 s2 s3 s4) rfl ⟨rfl, HW2.out.trans (stored5_below (show w.heap.size ≤ w.heap.size + 1 by omega))⟩
  · have hf' : (y != 0) = true := by rw [bne_iff_ne]; exact hf
    rw [if_neg hf]
    obtain ⟨b, hb⟩ : ∃ b, b = w.heap.size + 1 + 1 + 1 := ⟨_, rfl⟩
    have HBE := Lib.hid hb
    clear hb
    go_enter Tryz.func77, Tryz.ntmps77
    go_wp2_with (first
      | (go_at_call 20; refine (over_at _ b _ (by rw [HSZ.out, HBE.out])).mono ?_; rintro e w1 ⟨rfl, hr1, hb1⟩; have HC1 := Lib.hid (HC0.out.below hb1); have HT1 := Lib.hid (HT0.out.below hb1); have HZ1 := Lib.hid (HZ0.out.below hb1); have HGV1 := Lib.hid ((HGV.out b (by rw [HBE.out]; omega)).below hb1); have HW1 := Lib.hid (below_step HB0.out hb1); have qa := HC1.out.c0; have qb := HC1.out.c1)
      | (go_at_call 119; refine (HG.out _ _ hr1 HGV1.out).mono ?_; rintro e w2 ⟨rfl, hr2, hm2⟩; have HW2 : Hid (Below w.heap.size w (w2.alloc (.cells #[.string q0, .int .u32 q1, .int .u64 q2, .int .u32 q3, .string q4] 36))) := (HW1.out.trans (hm2.below (by rw [HBE.out]; omega) HW1.out.size)).alloc (Nat.le_trans HW1.out.size hm2.size) _; have HT2 := Lib.hid ((HT1.out.mod hm2 (by rw [HBE.out]; omega)).alloc (.cells #[.string q0, .int .u32 q1, .int .u64 q2, .int .u32 q3, .string q4] 36)); have HZ2 := Lib.hid ((HZ1.out.mod hm2 (by rw [HBE.out]; omega)).alloc (.cells #[.string q0, .int .u32 q1, .int .u64 q2, .int .u32 q3, .string q4] 36)))
      | (go_at_call 105; refine (HE.out _ _ (hr2.alloc _)).mono ?_; rintro e w3 ⟨rfl, rfl⟩; obtain ⟨k0, k1, k2, k3, k4, f0, f1, f2, f3, f4⟩ := HT2.out; obtain ⟨z0, z1, z2, z3, z4, _, _, _, _, _⟩ := HZ2.out))
    obtain ⟨s0, s1, s2, s3, s4⟩ := stored5 (v0 := .string ⟨#[]⟩) (v1 := .int .u32 0) (v2 := .int .u64 0) (v3 := .int .u32 0) (v4 := .string ⟨#[]⟩) k0 k1 k2 k3 k4
    exact bodyPost_ret_by (rrQ rfl rfl s0 s1 s2 s3 s4) rfl ⟨rfl, HW2.out.trans (stored5_below (show w.heap.size ≤ w.heap.size + 1 by omega))⟩
end Go.Proofs.YtdghhffknfkcaaaGreatDoor
/- The contracts of a versioned codec's reading: of a number. -/
namespace Go.Proofs.YtdghhffknfkcaaaGreatDoor
open Go.RowKit
def getU (s : ByteArray) (e : Int) : Nat × ByteArray × Int := (Oc.val (tk s e 8).1.data.toList, (tk s e 8).2.1, (tk s e 8).2.2)
def getW (s : ByteArray) (e : Int) : Nat × ByteArray × Int := (Oc.val (tk s e 2).1.data.toList, (tk s e 2).2.1, (tk s e 2).2.2)
theorem getFnU_any (b : Nat) (s : ByteArray) (e : Int) (w : World) (h : Rd w b s e) :
    Calls Tryz.prog 22 #[.pointer (some ⟨b, 0, none⟩)] w fun v w' => v = .returned (.int .u64 ((getU s e).1 : Nat)) ∧ Rd w' b (getU s e).2.1 (getU s e).2.2 ∧ Upd b w w' := eight_rd b s e w h
theorem vgetU_any (b g : Nat) (s : ByteArray) (e : Int) (w : World) (h : Rd w b s e) (hG : Gv0 w b g (.func (.func 22) #[] #[])) :
    Calls Tryz.prog 138 #[.pointer (some ⟨b, 0, none⟩), .pointer (some ⟨g, 0, none⟩)] w fun x w' => x = .returned (.int .u64 ((verG 0 getU s e).1 : Nat)) ∧ Rd w' b (verG 0 getU s e).2.1 (verG 0 getU s e).2.2 ∧ Upd b w w' := by
  have HR := Lib.hid h
  have HG := Lib.hid hG
  clear h hG
  unfold verG
  simp only
  have HO := Lib.hid (fun W (hW : Rd W b s e) => one_rd b s e W hW)
  revert HO
  generalize tk s e 1 = O
  intro HO
  by_cases hv : Oc.val O.1.data.toList = 1
  · rw [if_pos hv]
    rw [hv] at HO
    clear hv
    have HF := Lib.hid (fun W (hW : Rd W b O.2.1 O.2.2) => getFnU_any b O.2.1 O.2.2 W hW)
    revert HF
    generalize getU O.2.1 O.2.2 = G
    intro HF
    have HE := Lib.hid (fun W (hW : Rd W b G.2.1 G.2.2) => err_any b G.2.1 G.2.2 W hW)
    obtain ⟨n, r, f⟩ := G
    simp only at HF HE ⊢
    by_cases hf : f = 0
    · subst hf
      rw [if_pos rfl]
      go_enter Tryz.func138, Tryz.ntmps138
      go_wp2_with (first
        | (go_at_call 135; refine (HO.out _ HR.out).mono ?_; rintro x w1 ⟨rfl, hr1, hu1⟩; have qf := (HG.out.upd hu1).cg)
        | (go_at_call 22; refine (HF.out _ hr1).mono ?_; rintro x w2 ⟨rfl, hr2, hu2⟩; clear qf)
        | (go_at_call 60; refine (HE.out _ hr2).mono ?_; rintro x w3 ⟨rfl, rfl⟩))
      go_ret
      exact ⟨rfl, hr2, hu1.trans hu2⟩
    · have hf' : (f != 0) = true := by rw [bne_iff_ne]; exact hf
      rw [if_neg hf]
      go_enter Tryz.func138, Tryz.ntmps138
      go_wp2_with (first
        | (go_at_call 135; refine (HO.out _ HR.out).mono ?_; rintro x w1 ⟨rfl, hr1, hu1⟩; have qf := (HG.out.upd hu1).cg)
        | (go_at_call 22; refine (HF.out _ hr1).mono ?_; rintro x w2 ⟨rfl, hr2, hu2⟩; clear qf)
        | (go_at_call 60; refine (HE.out _ hr2).mono ?_; rintro x w3 ⟨rfl, rfl⟩))
      go_ret
      exact ⟨rfl, hr2, hu1.trans hu2⟩
  · rw [if_neg hv]
    have HF := Lib.hid (fun W (hW : Rd W b O.2.1 O.2.2) => fail_any b O.2.1 O.2.2 4 W hW)
    revert HO hv HF
    generalize Oc.val O.1.data.toList = v
    generalize hx : (if O.2.2 = 0 then (4 : Int) else O.2.2) = x4
    intro HO hv HF
    clear hx
    have hd : ((v : Int) != 1) = true := by rw [bne_iff_ne]; omega
    go_enter Tryz.func138, Tryz.ntmps138
    go_wp2_with (first
      | (go_at_call 135; refine (HO.out _ HR.out).mono ?_; rintro x w1 ⟨rfl, hr1, hu1⟩)
      | (go_at_call 61; refine (HF.out _ hr1).mono ?_; rintro x w2 ⟨rfl, hr2, hu2⟩))
    go_ret
    exact ⟨rfl, hr2, hu1.trans hu2⟩
theorem idleGU (p : Addr) (w : World) :
    CallsD Tryz.prog 139 #[.pointer (some p)] .returning w fun e u' w' => e = .returned (.tuple #[]) ∧ u' = .returning ∧ w' = w := by
  refine callsD_of_wpS Tryz.func139 rfl fun c₀ cs hu => ?_
  apply wpS_seq
  apply wpS_region
  simp [wpOpsS, go_sem, recoverD, hu, Tryz.ntmps139, Exit.thenS]
  refine wpS_cond (t := false) (by simp [Act.eval, Array.replicate]) ?_
  simp only [Bool.false_eq_true, if_false]
  refine wpS_of_wp (wp_skip ?_)
  cases c₀
  simp_all [bodyPostS, results, Tryz.results139]
set_option maxHeartbeats 2000000 in
theorem getU_any (pv : Value) (b g : Nat) (s : ByteArray) (e : Int) (w : World) (h : Rd w b s e) (hG : Gv0 w b g (.func (.func 22) #[] #[])) :
    Calls Tryz.prog 104 #[.agg #[pv, .func (.func 138) #[] #[.pointer (some ⟨g, 0, none⟩)]], .pointer (some ⟨b, 0, none⟩)] w fun x w' => x = .returned (.int .u64 ((verG 0 getU s e).1 : Nat)) ∧ Rd w' b (verG 0 getU s e).2.1 (verG 0 getU s e).2.2 ∧ Mod b w w' := by
  have hmf : ∀ (fn : Fn) (first cap : Array Value) (w : World), (Instr.makeFunc fn first cap).run Tryz.prog w = .ok (.func fn first cap) w := fun _ _ _ _ => rfl
  have HR : Hid (∀ o1 o2, Rd ((w.alloc o1).alloc o2) b s e) := fun o1 o2 => (h.alloc o1).alloc o2
  have HGV : Hid (∀ o1 o2, Gv0 ((w.alloc o1).alloc o2) b g (.func (.func 22) #[] #[])) := fun o1 o2 => (hG.alloc o1).alloc o2
  clear h hG
  have HV := Lib.hid (fun W (hW : Rd W b s e) (hV : Gv0 W b g (.func (.func 22) #[] #[])) => vgetU_any b g s e W hW hV)
  revert HV
  generalize verG 0 getU s e = G
  obtain ⟨n, r, f⟩ := G
  intro HV
  simp only at HV ⊢
  go_enter_defers Tryz.func104, Tryz.ntmps104
  go_wp2_with (go_at_call 138; go_loud (refine (HV.out _ (HR.out _ _) (HGV.out _ _)).mono ?_; rintro x w1 ⟨rfl, hr1, hu1⟩))
  refine leaves_cons (f := 139) (args := #[.pointer (some ⟨w.heap.size + 1, 0, none⟩)]) (by simp) (by simp [go_sem]) ?_
  refine (idleGU ⟨w.heap.size + 1, 0, none⟩ _).mono ?_
  rintro e u' w'' ⟨rfl, rfl, rfl⟩
  simp [Leaves, settle, results, Tryz.results104, go_sem]
  exact ⟨hr1, (((Mod.refl b w).alloc _).alloc _).upd hu1⟩
set_option maxHeartbeats 2000000 in
theorem readU_any (pv : Value) (g : Nat) (s : ByteArray) (w : World) (hG : w.cell? ⟨g, 0, none⟩ = some (.func (.func 22) #[] #[])) :
    Calls Tryz.prog 55 #[.agg #[pv, .func (.func 138) #[] #[.pointer (some ⟨g, 0, none⟩)]], .string s] w fun x w' => x = .returned (.tuple #[.int .u64 ((readG 0 getU s).1 : Nat), .int .i64 (readG 0 getU s).2]) ∧ Below w.heap.size w w' := by
  have heq : ∀ w, (binOp .eql 121 (.func (.func 138) #[] #[.pointer (some ⟨g, 0, none⟩)]) .nilFunc).run Tryz.prog w = .ok (.bool false) w := fun w => by kernel_rfl
  have HC0 := Lib.hid (Cd2.new w pv (.func (.func 138) #[] #[.pointer (some ⟨g, 0, none⟩)]) 123)
  have HGV : Hid (Gv0 (w.alloc (.cells #[pv, .func (.func 138) #[] #[.pointer (some ⟨g, 0, none⟩)]] 123)) (w.heap.size + 1) g (.func (.func 22) #[] #[])) :=
    Gv0.alloc ⟨hG, by have := World.block_lt_of_cell? _ _ hG; simp at this; omega⟩ _
  have HG := Lib.hid (fun b W (hW : Rd W b s 0) (hV : Gv0 W b g (.func (.func 22) #[] #[])) => getU_any pv b g s 0 W hW hV)
  clear hG
  unfold readG
  revert HG
  generalize verG 0 getU s 0 = G
  obtain ⟨n, r, f⟩ := G
  intro HG
  simp only at HG ⊢
  have HE := Lib.hid (fun b W (hW : Rd W b r f) => end_rd b r f W hW)
  revert HE
  generalize fin r f = y
  intro HE
  obtain ⟨b, hb⟩ : ∃ b, b = w.heap.size + 1 := ⟨_, rfl⟩
  rw [← hb] at HGV
  have HBE := Lib.hid hb
  clear hb
  by_cases hf : y = 0
  · subst hf
    rw [if_pos rfl]
    go_enter Tryz.func55, Tryz.ntmps55
    go_wp2_with (first
      | (go_at_call 20; refine (over_at _ b _ (by rw [size1, HBE.out])).mono ?_; rintro e w1 ⟨rfl, hr1, hb1⟩; have HGV1 := Lib.hid (HGV.out.below hb1); have HC1 := Lib.hid (HC0.out.below hb1); have HW1 := Lib.hid (below_step ((Below.refl _ w).alloc (Nat.le_refl _) _) hb1); have qa := HC1.out.c0; have qb := HC1.out.c1)
      | (go_at_call 104; refine (HG.out _ _ hr1 HGV1.out).mono ?_; rintro e w2 ⟨rfl, hr2, hm2⟩; have HW2 : Hid (Below w.heap.size w w2) := HW1.out.trans (hm2.below (by rw [HBE.out]; omega) HW1.out.size))
      | (go_at_call 105; refine (HE.out _ _ hr2).mono ?_; rintro e w3 ⟨rfl, rfl⟩))
    go_ret2
    exact ⟨rfl, HW2.out⟩
  · have hf' : (y != 0) = true := by rw [bne_iff_ne]; exact hf
    rw [if_neg hf]
    go_enter Tryz.func55, Tryz.ntmps55
    go_wp2_with (first
      | (go_at_call 20; refine (over_at _ b _ (by rw [size1, HBE.out])).mono ?_; rintro e w1 ⟨rfl, hr1, hb1⟩; have HGV1 := Lib.hid (HGV.out.below hb1); have HC1 := Lib.hid (HC0.out.below hb1); have HW1 := Lib.hid (below_step ((Below.refl _ w).alloc (Nat.le_refl _) _) hb1); have qa := HC1.out.c0; have qb := HC1.out.c1)
      | (go_at_call 104; refine (HG.out _ _ hr1 HGV1.out).mono ?_; rintro e w2 ⟨rfl, hr2, hm2⟩; have HW2 : Hid (Below w.heap.size w w2) := HW1.out.trans (hm2.below (by rw [HBE.out]; omega) HW1.out.size))
      | (go_at_call 105; refine (HE.out _ _ hr2).mono ?_; rintro e w3 ⟨rfl, rfl⟩))
    go_ret2
    exact ⟨rfl, HW2.out⟩
end Go.Proofs.YtdghhffknfkcaaaGreatDoor
/- The contracts of what makes a versioned codec. -/
namespace Go.Proofs.YtdghhffknfkcaaaGreatDoor
open Go.RowKit
theorem three0 (w : World) (o1 o2 : Obj) (x : Value) (T : TypeId) : (((w.alloc (.cells #[x] T)).alloc o1).alloc o2).cell? ⟨w.heap.size, 0, none⟩ = some x := cell_alloc (cell_alloc (by simp))
theorem three1 (w : World) (o1 o2 : Obj) (x : Value) (T : TypeId) : (((w.alloc o1).alloc (.cells #[x] T)).alloc o2).cell? ⟨w.heap.size + 1, 0, none⟩ = some x := cell_alloc (cell2 w o1 x T)
theorem far {w : World} {p : Addr} {x : Value} {g j : Nat} {v : Value} (h : w.cell? p = some x) (hne : g ≠ p.block) : (w.setCell ⟨g, j, none⟩ v).cell? p = some x := (World.cell?_setCell_far w ⟨g, j, none⟩ p v hne).trans h
theorem stored2 {w : World} {g : Nat} {x0 x1 v0 v1 : Value} (k0 : w.cell? ⟨g, 0, none⟩ = some x0) (k1 : w.cell? ⟨g, 1, none⟩ = some x1) :
    ((w.setCell ⟨g, 0, none⟩ v0).setCell ⟨g, 1, none⟩ v1).cell? ⟨g, 0, none⟩ = some v0 ∧ ((w.setCell ⟨g, 0, none⟩ v0).setCell ⟨g, 1, none⟩ v1).cell? ⟨g, 1, none⟩ = some v1 := by
  have ne01 : (⟨g, 1, none⟩ : Addr) ≠ ⟨g, 0, none⟩ := fun h => by cases h
  have a0 : (w.setCell ⟨g, 0, none⟩ v0).cell? ⟨g, 0, none⟩ = some v0 := World.cell?_setCell_same' _ _ _ (by rw [k0]; rfl)
  have a1 : (w.setCell ⟨g, 0, none⟩ v0).cell? ⟨g, 1, none⟩ = some x1 := by rw [World.cell?_setCell_other _ _ _ _ (fun h => ne01 h.symm), k1]
  refine ⟨?_, World.cell?_setCell_same' _ _ _ (by rw [a1]; rfl)⟩
  rw [World.cell?_setCell_other _ _ _ _ ne01, a0]
theorem stored2_below {w : World} {g B : Nat} {v0 v1 : Value} (hB : B ≤ g) : Below B w ((w.setCell ⟨g, 0, none⟩ v0).setCell ⟨g, 1, none⟩ v1) :=
  ((Below.refl B w).setCell (p := ⟨g, 0, none⟩) hB _).setCell (p := ⟨g, 1, none⟩) hB _
/-- A box of two cells that may be written. -/
structure Bx2 (w : World) (g : Nat) (x0 x1 : Value) : Prop where
  c0 : w.cell? ⟨g, 0, none⟩ = some x0
  c1 : w.cell? ⟨g, 1, none⟩ = some x1
  f0 : w.frozen? ⟨g, 0, none⟩ = false
  f1 : w.frozen? ⟨g, 1, none⟩ = false
theorem Bx2.below {w w' : World} {g : Nat} {x0 x1 : Value} (h : Bx2 w g x0 x1) (hb : Below w.heap.size w w') : Bx2 w' g x0 x1 := by
  have hl := World.block_lt_of_cell? _ _ h.c0
  exact ⟨(hb.cell (p := ⟨g, 0, none⟩) hl).trans h.c0, (hb.cell (p := ⟨g, 1, none⟩) hl).trans h.c1, (hb.frozen (p := ⟨g, 0, none⟩) hl).trans h.f0, (hb.frozen (p := ⟨g, 1, none⟩) hl).trans h.f1⟩
theorem Bx2.new (w : World) (x0 x1 : Value) (T : TypeId) : Bx2 (w.alloc (.cells #[x0, x1] T)) w.heap.size x0 x1 := by constructor <;> simp
theorem Bx2.new1 (w : World) (o : Obj) (x0 x1 : Value) (T : TypeId) : Bx2 ((w.alloc o).alloc (.cells #[x0, x1] T)) (w.heap.size + 1) x0 x1 := by
  have := Bx2.new (w.alloc o) x0 x1 T
  rwa [size1] at this
theorem Bx2.new2 (w : World) (o1 o2 : Obj) (x0 x1 : Value) (T : TypeId) : Bx2 (((w.alloc o1).alloc o2).alloc (.cells #[x0, x1] T)) (w.heap.size + 1 + 1) x0 x1 := by
  have := Bx2.new ((w.alloc o1).alloc o2) x0 x1 T
  rwa [size2] at this
def PostV (w : World) (P : World → Value → Prop) (e : Ending) (w' : World) : Prop := ∃ v, e = .returned v ∧ P w' v ∧ Below w.heap.size w w'
/-- A codec's functions, and what they hold. -/
def VerQ (w : World) (v pf gf : Value) (lo : Nat) : Prop := ∃ a g : Nat, v = .agg #[.func (.func 132) #[] #[.pointer (some ⟨a, 0, none⟩)], .func (.func 134) #[] #[.pointer (some ⟨g, 0, none⟩)]] ∧ w.cell? ⟨a, 0, none⟩ = some pf ∧ w.cell? ⟨g, 0, none⟩ = some gf ∧ lo ≤ a ∧ lo ≤ g
theorem VerQ.below {w w' : World} {v pf gf : Value} {lo : Nat} (h : VerQ w v pf gf lo) (hb : Below w.heap.size w w') : VerQ w' v pf gf lo := by
  obtain ⟨a, g, hv, ha, hg, hl⟩ := h
  exact ⟨a, g, hv, (hb.cell (World.block_lt_of_cell? _ _ ha)).trans ha, (hb.cell (World.block_lt_of_cell? _ _ hg)).trans hg, hl⟩
theorem verQ_any (p g : Fn) (pc gc : Array Value) (w : World) :
    Calls Tryz.prog 100 #[.func p #[] pc, .func g #[] gc] w (PostV w fun w' v => VerQ w' v (.func p #[] pc) (.func g #[] gc) w.heap.size) := by
  have hmf : ∀ (fn : Fn) (first cap : Array Value) (w : World), (Instr.makeFunc fn first cap).run Tryz.prog w = .ok (.func fn first cap) w := fun _ _ _ _ => rfl
  have HQ : Hid (∀ v w', (v = .agg #[.func (.func 132) #[] #[.pointer (some ⟨w.heap.size, 0, none⟩)], .func (.func 134) #[] #[.pointer (some ⟨w.heap.size + 1, 0, none⟩)]] ∧ w'.cell? ⟨w.heap.size, 0, none⟩ = some (.func p #[] pc) ∧ w'.cell? ⟨w.heap.size + 1, 0, none⟩ = some (.func g #[] gc) ∧ Below w.heap.size w w') → PostV w (fun w' v => VerQ w' v (.func p #[] pc) (.func g #[] gc) w.heap.size) (Ending.returned v) w') := by
    rintro v w' ⟨h1, h2, h3, h4⟩
    exact ⟨v, rfl, ⟨_, _, h1, h2, h3, Nat.le_refl _, Nat.le_succ _⟩, h4⟩
  go_enter Tryz.func100, Tryz.ntmps100
  go_wp2
  refine bodyPost_ret_by (v := .agg #[.func (.func 132) #[] #[.pointer (some ⟨w.heap.size, 0, none⟩)], .func (.func 134) #[] #[.pointer (some ⟨w.heap.size + 1, 0, none⟩)]]) ?_ rfl (HQ.out _ _ ⟨rfl, three0 w _ _ _ _, three1 w _ _ _ _, below3 w _ _ _⟩)
  simp [results, Tryz.results100, go_sem]
/-- A codec's functions, and what they hold. -/
def VerU (w : World) (v pf gf : Value) (lo : Nat) : Prop := ∃ a g : Nat, v = .agg #[.func (.func 137) #[] #[.pointer (some ⟨a, 0, none⟩)], .func (.func 138) #[] #[.pointer (some ⟨g, 0, none⟩)]] ∧ w.cell? ⟨a, 0, none⟩ = some pf ∧ w.cell? ⟨g, 0, none⟩ = some gf ∧ lo ≤ a ∧ lo ≤ g
theorem VerU.below {w w' : World} {v pf gf : Value} {lo : Nat} (h : VerU w v pf gf lo) (hb : Below w.heap.size w w') : VerU w' v pf gf lo := by
  obtain ⟨a, g, hv, ha, hg, hl⟩ := h
  exact ⟨a, g, hv, (hb.cell (World.block_lt_of_cell? _ _ ha)).trans ha, (hb.cell (World.block_lt_of_cell? _ _ hg)).trans hg, hl⟩
theorem verU_any (p g : Fn) (pc gc : Array Value) (w : World) :
    Calls Tryz.prog 103 #[.func p #[] pc, .func g #[] gc] w (PostV w fun w' v => VerU w' v (.func p #[] pc) (.func g #[] gc) w.heap.size) := by
  have hmf : ∀ (fn : Fn) (first cap : Array Value) (w : World), (Instr.makeFunc fn first cap).run Tryz.prog w = .ok (.func fn first cap) w := fun _ _ _ _ => rfl
  have HQ : Hid (∀ v w', (v = .agg #[.func (.func 137) #[] #[.pointer (some ⟨w.heap.size, 0, none⟩)], .func (.func 138) #[] #[.pointer (some ⟨w.heap.size + 1, 0, none⟩)]] ∧ w'.cell? ⟨w.heap.size, 0, none⟩ = some (.func p #[] pc) ∧ w'.cell? ⟨w.heap.size + 1, 0, none⟩ = some (.func g #[] gc) ∧ Below w.heap.size w w') → PostV w (fun w' v => VerU w' v (.func p #[] pc) (.func g #[] gc) w.heap.size) (Ending.returned v) w') := by
    rintro v w' ⟨h1, h2, h3, h4⟩
    exact ⟨v, rfl, ⟨_, _, h1, h2, h3, Nat.le_refl _, Nat.le_succ _⟩, h4⟩
  go_enter Tryz.func103, Tryz.ntmps103
  go_wp2
  refine bodyPost_ret_by (v := .agg #[.func (.func 137) #[] #[.pointer (some ⟨w.heap.size, 0, none⟩)], .func (.func 138) #[] #[.pointer (some ⟨w.heap.size + 1, 0, none⟩)]]) ?_ rfl (HQ.out _ _ ⟨rfl, three0 w _ _ _ _, three1 w _ _ _ _, below3 w _ _ _⟩)
  simp [results, Tryz.results103, go_sem]
/-- A queue's codec of a name. -/
def CdQ (w : World) (v : Value) (nm : ByteArray) : Prop := ∃ a g n : Nat, v = .agg #[.func (.func 132) #[] #[.pointer (some ⟨a, 0, none⟩)], .func (.func 134) #[] #[.pointer (some ⟨g, 0, none⟩)]] ∧ w.cell? ⟨a, 0, none⟩ = some (.func (.func 93) #[] #[]) ∧ w.cell? ⟨g, 0, none⟩ = some (.func (.func 97) #[] #[.pointer (some ⟨n, 0, none⟩)]) ∧ w.cell? ⟨n, 0, none⟩ = some (.string nm)
theorem CdQ.below {w w' : World} {v : Value} {nm : ByteArray} (h : CdQ w v nm) (hb : Below w.heap.size w w') : CdQ w' v nm := by
  obtain ⟨a, g, n, hv, ha, hg, hn⟩ := h
  exact ⟨a, g, n, hv, (hb.cell (World.block_lt_of_cell? _ _ ha)).trans ha, (hb.cell (World.block_lt_of_cell? _ _ hg)).trans hg, (hb.cell (World.block_lt_of_cell? _ _ hn)).trans hn⟩
theorem CdQ.of {w : World} {v : Value} {nm : ByteArray} {n lo : Nat} (h : VerQ w v (.func (.func 93) #[] #[]) (.func (.func 97) #[] #[.pointer (some ⟨n, 0, none⟩)]) lo) (hn : w.cell? ⟨n, 0, none⟩ = some (.string nm)) : CdQ w v nm := by
  obtain ⟨a, g, hv, ha, hg, _⟩ := h
  exact ⟨a, g, n, hv, ha, hg, hn⟩
theorem CdQ.bytes {W : World} {v : Value} {nm : ByteArray} (h : CdQ W v nm) (q : Qu) (hq : q.ok) :
    Calls Tryz.prog 50 #[v, aggQ q] W fun e w' => e = .returned (.string (str (1 :: encQ q))) ∧ Below W.heap.size W w' := by
  obtain ⟨a, g, n, rfl, ha, hg, hn⟩ := h
  exact bytesQ_any q hq a _ W ha
theorem CdQ.read {W : World} {v : Value} {nm : ByteArray} (h : CdQ W v nm) (s : ByteArray) :
    Calls Tryz.prog 77 #[v, .string s] W fun x w' => x = .returned (.tuple #[aggQ (readG zQ (getQ nm) s).1, .int .i64 (readG zQ (getQ nm) s).2]) ∧ Below W.heap.size W w' := by
  obtain ⟨a, g, n, rfl, ha, hg, hn⟩ := h
  have h1 := World.block_lt_of_cell? _ _ hg
  have h2 := World.block_lt_of_cell? _ _ hn
  simp only at h1 h2
  exact readQ_any _ g n nm s W (fun b hb => ⟨⟨hg, by omega⟩, ⟨hn, by omega⟩⟩)
theorem VerU.bytes {W : World} {v : Value} {lo : Nat} (h : VerU W v (.func (.func 95) #[] #[]) (.func (.func 22) #[] #[]) lo) (n : Nat) (hn : n < 18446744073709551616) :
    Calls Tryz.prog 56 #[v, .int .u64 n] W fun e w' => e = .returned (.string (str (1 :: Oc.big 8 n))) ∧ Below W.heap.size W w' := by
  obtain ⟨a, g, rfl, ha, hg, _⟩ := h
  exact bytesU_any n hn a _ W ha
theorem VerU.read {W : World} {v : Value} {lo : Nat} (h : VerU W v (.func (.func 95) #[] #[]) (.func (.func 22) #[] #[]) lo) (s : ByteArray) :
    Calls Tryz.prog 55 #[v, .string s] W fun x w' => x = .returned (.tuple #[.int .u64 ((readG 0 getU s).1 : Nat), .int .i64 (readG 0 getU s).2]) ∧ Below W.heap.size W w' := by
  obtain ⟨a, g, rfl, ha, hg, _⟩ := h
  exact readU_any _ g s W hg
theorem rqQ {w : World} {g : Nat} {x0 x1 : Value} {tmps : Array Value} (ht : tmps[2]? = some (.pointer (some ⟨g, 0, none⟩))) (h0 : w.cell? ⟨g, 0, none⟩ = some x0) (h1 : w.cell? ⟨g, 1, none⟩ = some x1) :
    (results Tryz.f49 tmps).run Tryz.prog w = .ok (.agg #[x0, x1]) w := by
  simp [results, Tryz.results49, go_sem, ht, h0, h1]
theorem rqU {w : World} {g : Nat} {x0 x1 : Value} {tmps : Array Value} (ht : tmps[0]? = some (.pointer (some ⟨g, 0, none⟩))) (h0 : w.cell? ⟨g, 0, none⟩ = some x0) (h1 : w.cell? ⟨g, 1, none⟩ = some x1) :
    (results Tryz.f54 tmps).run Tryz.prog w = .ok (.agg #[x0, x1]) w := by
  simp [results, Tryz.results54, go_sem, ht, h0, h1]
theorem queues_any (nm : ByteArray) (w : World) :
    Calls Tryz.prog 49 #[.string nm] w (PostV w fun w' v => CdQ w' v nm) := by
  have hmf : ∀ (fn : Fn) (first cap : Array Value) (w : World), (Instr.makeFunc fn first cap).run Tryz.prog w = .ok (.func fn first cap) w := fun _ _ _ _ => rfl
  have HV := Lib.hid (fun W p g pc gc => verQ_any p g pc gc W)
  have HC := Lib.hid (cell_alloc (o := .cells #[.nilFunc, .nilFunc] 111) (show (w.alloc (.cells #[.string nm] 9)).cell? ⟨w.heap.size, 0, none⟩ = some (.string nm) by simp))
  have HB := Lib.hid (Bx2.new1 w (.cells #[.string nm] 9) .nilFunc .nilFunc 111)
  have HW := Lib.hid (below2 w (.cells #[.string nm] 9) (.cells #[.nilFunc, .nilFunc] 111))
  have HZ := Lib.hid (size2 w (.cells #[.string nm] 9) (.cells #[.nilFunc, .nilFunc] 111))
  go_enter Tryz.func49, Tryz.ntmps49
  go_wp2_with (go_at_call 100; refine (HV.out _ _ _ _ _).mono ?_; rintro e w1 ⟨v, rfl, ⟨a, g, rfl, ha, hg, la, lg⟩, hb⟩; have HA := Lib.hid ha; have HG := Lib.hid hg; have HLA := Lib.hid la; have HLG := Lib.hid lg; clear ha hg la lg; obtain ⟨k0, k1, f0, f1⟩ := HB.out.below hb)
  obtain ⟨s0, s1⟩ := stored2 (v0 := .func (.func 132) #[] #[.pointer (some ⟨a, 0, none⟩)]) (v1 := .func (.func 134) #[] #[.pointer (some ⟨g, 0, none⟩)]) k0 k1
  have hla := HLA.out
  have hlg := HLG.out
  rw [HZ.out] at hla hlg
  have hn := (hb.cell (World.block_lt_of_cell? _ _ HC.out)).trans HC.out
  refine bodyPost_ret_by (rqQ rfl s0 s1) rfl ⟨_, rfl, ⟨a, g, w.heap.size, rfl, ?_, ?_, ?_⟩, (below_step' HW.out hb).trans (stored2_below (by omega))⟩
  · exact far (far HA.out (by simp only; omega)) (by simp only; omega)
  · exact far (far HG.out (by simp only; omega)) (by simp only; omega)
  · exact far (far hn (by simp only; omega)) (by simp only; omega)
def CdU (w : World) (v : Value) : Prop := VerU w v (.func (.func 95) #[] #[]) (.func (.func 22) #[] #[]) 0
theorem CdU.below {w w' : World} {v : Value} (h : CdU w v) (hb : Below w.heap.size w w') : CdU w' v := VerU.below h hb
theorem counters_any (w : World) :
    Calls Tryz.prog 54 #[] w (PostV w fun w' v => CdU w' v) := by
  have HV := Lib.hid (fun W p g pc gc => verU_any p g pc gc W)
  have HB := Lib.hid (Bx2.new w .nilFunc .nilFunc 123)
  have HW : Hid (Below w.heap.size w (w.alloc (.cells #[.nilFunc, .nilFunc] 123))) := (Below.refl _ _).alloc (Nat.le_refl _) _
  have HZ := Lib.hid (size1 w (.cells #[.nilFunc, .nilFunc] 123))
  go_enter Tryz.func54, Tryz.ntmps54
  go_wp2_with (go_at_call 103; refine (HV.out _ _ _ _ _).mono ?_; rintro e w1 ⟨v, rfl, ⟨a, g, rfl, ha, hg, la, lg⟩, hb⟩; have HA := Lib.hid ha; have HG := Lib.hid hg; have HLA := Lib.hid la; have HLG := Lib.hid lg; clear ha hg la lg; obtain ⟨k0, k1, f0, f1⟩ := HB.out.below hb)
  obtain ⟨s0, s1⟩ := stored2 (v0 := .func (.func 137) #[] #[.pointer (some ⟨a, 0, none⟩)]) (v1 := .func (.func 138) #[] #[.pointer (some ⟨g, 0, none⟩)]) k0 k1
  have hla := HLA.out
  have hlg := HLG.out
  rw [HZ.out] at hla hlg
  refine bodyPost_ret_by (rqU rfl s0 s1) rfl ⟨_, rfl, ⟨a, g, rfl, ?_, ?_, Nat.zero_le _, Nat.zero_le _⟩, (below_step' HW.out hb).trans (stored2_below (Nat.le_refl _))⟩
  · exact far (far HA.out (by simp only; omega)) (by simp only; omega)
  · exact far (far HG.out (by simp only; omega)) (by simp only; omega)
end Go.Proofs.YtdghhffknfkcaaaGreatDoor
