/- The contracts of a codec's get and Read, at a branch's cells. -/
import Derived.Test.YtppoikhonlgcnaaGetK
import Derived.Test.YtppoikhonlgcnaaBytK
import Derived.Test.YtppoikhonlgcnaaRdC
namespace Go.Proofs.Ytppoikhonlgcnaa
open Go.RowKit
open Sl (Cl Kd)
theorem idleGetK (p : Addr) (w : World) :
    CallsD Try.prog 107 #[.pointer (some p)] .returning w fun e u' w' => e = .returned (.tuple #[]) ∧ u' = .returning ∧ w' = w := by
  refine callsD_of_wpS Try.func107 rfl fun c₀ cs hu => ?_
  apply wpS_seq
  apply wpS_region
  simp [wpOpsS, go_sem, recoverD, hu, Try.ntmps107, Exit.thenS]
  refine wpS_cond (t := false) (by simp [Act.eval, Array.replicate]) ?_
  simp only [Bool.false_eq_true, if_false]
  refine wpS_of_wp (wp_skip ?_)
  cases c₀
  simp_all [bodyPostS, results, Try.results107]
/-- An empty box of a branch's cell. -/
structure RzK (w : World) (g : Nat) : Prop where
  r0 : w.cell? ⟨g, 0, none⟩ = some (.string ⟨#[]⟩)
  r1 : w.cell? ⟨g, 1, none⟩ = some (.int .u32 0)
  p0 : w.frozen? ⟨g, 0, none⟩ = false
  p1 : w.frozen? ⟨g, 1, none⟩ = false
theorem RzK.lt {w : World} {g : Nat} (h : RzK w g) : g < w.heap.size := World.block_lt_of_cell? _ _ h.r0
theorem RzK.keep {w w' : World} {g : Nat} (h : RzK w g) (h0 : w'.heap[g]? = w.heap[g]?) : RzK w' g := by
  have c := fun o => World.cell?_of_block (w := w) (w' := w') (a := ⟨g, o, none⟩) h0
  have f := fun o => World.frozen?_of_block (w := w) (w' := w') (a := ⟨g, o, none⟩) h0
  exact ⟨(c 0).trans h.r0, (c 1).trans h.r1, (f 0).trans h.p0, (f 1).trans h.p1⟩
theorem RzK.mod {w w' : World} {g b : Nat} (h : RzK w g) (m : Mod b w w') (hb : g ≠ b) : RzK w' g := h.keep (m.block g h.lt hb)
theorem RzK.below {w w' : World} {g : Nat} (h : RzK w g) (m : Below w.heap.size w w') : RzK w' g := h.keep (m.block g h.lt)
theorem RzK.alloc {w : World} {g : Nat} (h : RzK w g) (o : Obj) : RzK (w.alloc o) g := h.below ((Below.refl _ _).alloc (Nat.le_refl _) _)
theorem RzK.new (w : World) (g : Nat) (hg : w.heap.size = g) : RzK (w.alloc (.cells #[.string ⟨#[]⟩, .int .u32 0] 47)) g := by
  subst hg
  constructor <;> simp
set_option maxHeartbeats 1000000 in
theorem getK_any (b : Nat) (s : ByteArray) (e : Int) (w : World) (h : Rd w b s e) :
    Calls Try.prog 95 #[cdcK, .pointer (some ⟨b, 0, none⟩)] w fun x w' => x = .returned (aggK (gkR s e).1) ∧ Rd w' b (gkR s e).2.1 (gkR s e).2.2 ∧ Mod b w w' := by
  have hmf : ∀ (fn : Fn) (first cap : Array Value) (w : World), (Instr.makeFunc fn first cap).run Try.prog w = .ok (.func fn first cap) w := fun _ _ _ _ => rfl
  have HR := Lib.hid h
  have HLT := Lib.hid h.lt
  have HNE : Hid (w.heap.size + 1 + 1 ≠ b) := fun he => by have := HLT.out; omega
  have HZ := Lib.hid (fun o1 o2 => RzK.new ((w.alloc o1).alloc o2) (w.heap.size + 1 + 1) (size2 w o1 o2))
  clear h
  have HG := Lib.hid (fun W (hW : Rd W b s e) => getKid_any b s e W hW)
  revert HG
  generalize gkR s e = X
  obtain ⟨x, s1, e1⟩ := X
  intro HG
  unfold cdcK
  unfold aggK at HG ⊢
  simp only at HG ⊢
  go_enter_defers Try.func95, Try.ntmps95
  go_wp2_with (go_at_call 41; (refine (HG.out _ (((HR.out.alloc _).alloc _).alloc _)).mono ?_; rintro e w1 ⟨rfl, hr1, hm1⟩; have HZ1 := Lib.hid ((HZ.out _ _).mod hm1 HNE.out); have r0 := HZ1.out.r0; have r1 := HZ1.out.r1; have p0 := HZ1.out.p0; have p1 := HZ1.out.p1))
  obtain ⟨s0_, s1_⟩ := stored2 (v0 := .string (str x.key)) (v1 := .int .u32 x.page) HZ1.out.r0 HZ1.out.r1
  have hbe := stored2_below (w := w1) (v0 := .string (str x.key)) (v1 := .int .u32 x.page) (show w.heap.size ≤ w.heap.size + 1 + 1 by omega)
  refine leaves_cons (f := 107) (args := #[.pointer (some ⟨w.heap.size + 1, 0, none⟩)]) (by simp) (by simp [go_sem]) ?_
  refine (idleGetK ⟨w.heap.size + 1, 0, none⟩ _).mono ?_
  rintro e u' w'' ⟨rfl, rfl, rfl⟩
  simp [Leaves, settle, results, Try.results95, go_sem, s0_, s1_]
  exact ⟨hr1.below' hbe HLT.out, (Mod.old (Mod.old (Mod.old hm1))).step' hbe⟩
/-- What Read answers of any bytes. -/
def rdK (s : ByteArray) : Kd × Int :=
  let G := gkR s 0
  if fin G.2.1 G.2.2 = 0 then (G.1, 0) else (zeroK, fin G.2.1 G.2.2)
/-- The codec's box at g, two empty boxes behind it. -/
structure R3K (w : World) (g : Nat) : Prop where
  c0 : w.cell? ⟨g, 0, none⟩ = some (.func (.func 38) #[] #[])
  c1 : w.cell? ⟨g, 1, none⟩ = some (.func (.func 41) #[] #[])
  z1 : RzK w (g + 1)
  z2 : RzK w (g + 1 + 1)
theorem R3K.keep {w w' : World} {g : Nat} (h : R3K w g) (hk : ∀ k, k ≤ g + 1 + 1 → w'.heap[k]? = w.heap[k]?) : R3K w' g :=
  ⟨(World.cell?_of_block (w := w) (a := ⟨g, 0, none⟩) (hk g (by omega))).trans h.c0, (World.cell?_of_block (w := w) (a := ⟨g, 1, none⟩) (hk g (by omega))).trans h.c1, h.z1.keep (hk _ (by omega)), h.z2.keep (hk _ (by omega))⟩
theorem R3K.below {w w' : World} {g : Nat} (h : R3K w g) (hb : Below w.heap.size w w') : R3K w' g := h.keep fun k hk => hb.block k (by have := h.z2.lt; omega)
theorem R3K.mod {w w' : World} {g b : Nat} (h : R3K w g) (m : Mod b w w') (hb : g + 1 + 1 < b) : R3K w' g := h.keep fun k hk => m.block k (by have := h.z2.lt; omega) (by omega)
theorem R3K.alloc {w : World} {g : Nat} (h : R3K w g) (o : Obj) : R3K (w.alloc o) g := h.below ((Below.refl _ _).alloc (Nat.le_refl _) _)
theorem R3K.new (w : World) : R3K (((w.alloc (.cells #[.func (.func 38) #[] #[], .func (.func 41) #[] #[]] 104)).alloc (.cells #[.string ⟨#[]⟩, .int .u32 0] 47)).alloc (.cells #[.string ⟨#[]⟩, .int .u32 0] 47)) w.heap.size := by
  refine ⟨?_, ?_, ?_, ?_⟩
  · rw [old_at 0 (by rw [size2]; omega), old_at 0 (by rw [size1]; omega), alloc_at 0 rfl]; rfl
  · rw [old_at 1 (by rw [size2]; omega), old_at 1 (by rw [size1]; omega), alloc_at 1 rfl]; rfl
  · exact (RzK.new _ _ (by rw [size1])).alloc _
  · exact RzK.new _ _ (by rw [size2])
theorem resRdK {w : World} {g : Nat} {v0 v1 : Value} {e : Int} {tmps : Array Value} (ht : tmps[4]? = some (.pointer (some ⟨g, 0, none⟩))) (h5 : tmps[5]? = some (.int .i64 e))
    (h0_ : w.cell? ⟨g, 0, none⟩ = some v0) (h1_ : w.cell? ⟨g, 1, none⟩ = some v1) :
    (results Try.f63 tmps).run Try.prog w = .ok (.tuple #[.agg #[v0, v1], .int .i64 e]) w := by
  simp [results, Try.results63, go_sem, ht, h5, h0_, h1_]
set_option maxHeartbeats 1000000 in
theorem rdK_any (s : ByteArray) (w : World) :
    Calls Try.prog 63 #[cdcK, .string s] w fun x w' => x = .returned (.tuple #[aggK (rdK s).1, .int .i64 (rdK s).2]) ∧ Below w.heap.size w w' := by
  have heq : ∀ w, (binOp .eql 32 (.func (.func 41) #[] #[]) .nilFunc).run Try.prog w = .ok (.bool false) w := fun w => by kernel_rfl
  have H0 := Lib.hid (R3K.new w)
  have HG := Lib.hid (fun b W (hW : Rd W b s 0) => getK_any b s 0 W hW)
  unfold rdK
  revert HG
  generalize gkR s 0 = X
  obtain ⟨x, s1, e1⟩ := X
  intro HG
  simp only at HG ⊢
  have HE := Lib.hid (fun b W (hW : Rd W b s1 e1) => end_rd b s1 e1 W hW)
  revert HE
  generalize fin s1 e1 = f
  intro HE
  unfold cdcK at HG ⊢
  unfold aggK at HG ⊢
  obtain ⟨b, hb⟩ : ∃ b, b = w.heap.size + 1 + 1 + 1 := ⟨_, rfl⟩
  have HBE := Lib.hid hb
  clear hb
  by_cases hf : f = 0
  · subst hf
    rw [if_pos rfl]
    go_enter Try.func63, Try.ntmps63
    go_wp2_with (first
      | (go_at_call 91; refine (over_at _ b _ (by rw [size3, HBE.out])).mono ?_; rintro e w1 ⟨rfl, hr1, hb1⟩; have HR1 := Lib.hid (H0.out.below hb1); have q0 := HR1.out.c0; have q1 := HR1.out.c1)
      | (go_at_call 95; refine (HG.out _ _ hr1).mono ?_; rintro e w2 ⟨rfl, hr2, hm2⟩; have HR2 := Lib.hid ((HR1.out.mod hm2 (by rw [HBE.out]; omega)).alloc (.cells #[.string (str x.key), .int .u32 x.page] 47)))
      | (go_at_call 94; refine (HE.out _ _ (hr2.alloc _)).mono ?_; rintro e w3 ⟨rfl, rfl⟩; have HZ1 := Lib.hid HR2.out.z1; have r0 := HZ1.out.r0; have r1 := HZ1.out.r1; have p0 := HZ1.out.p0; have p1 := HZ1.out.p1))
    obtain ⟨s0_, s1_⟩ := stored2 (v0 := .string (str x.key)) (v1 := .int .u32 x.page) HZ1.out.r0 HZ1.out.r1
    have hW1 := below_step (below3 w _ _ _) hb1
    have hW2 := hW1.trans (hm2.below (by rw [HBE.out]; omega) hW1.size)
    exact bodyPost_ret_by (resRdK rfl rfl s0_ s1_) rfl ⟨rfl, (hW2.alloc hW2.size _).trans (stored2_below (show w.heap.size ≤ w.heap.size + 1 by omega))⟩
  · have hf' : (f != 0) = true := by rw [bne_iff_ne]; exact hf
    rw [if_neg hf]
    go_enter Try.func63, Try.ntmps63
    go_wp2_with (first
      | (go_at_call 91; refine (over_at _ b _ (by rw [size3, HBE.out])).mono ?_; rintro e w1 ⟨rfl, hr1, hb1⟩; have HR1 := Lib.hid (H0.out.below hb1); have q0 := HR1.out.c0; have q1 := HR1.out.c1)
      | (go_at_call 95; refine (HG.out _ _ hr1).mono ?_; rintro e w2 ⟨rfl, hr2, hm2⟩; have HR2 := Lib.hid ((HR1.out.mod hm2 (by rw [HBE.out]; omega)).alloc (.cells #[.string (str x.key), .int .u32 x.page] 47)))
      | (go_at_call 94; refine (HE.out _ _ (hr2.alloc _)).mono ?_; rintro e w3 ⟨rfl, rfl⟩; have HZ1 := Lib.hid HR2.out.z1; have HZ2 := Lib.hid HR2.out.z2; have r0 := HZ1.out.r0; have r1 := HZ1.out.r1; have p0 := HZ1.out.p0; have p1 := HZ1.out.p1; have m0 := HZ2.out.r0; have m1 := HZ2.out.r1))
    obtain ⟨s0_, s1_⟩ := stored2 (v0 := .string ⟨#[]⟩) (v1 := .int .u32 0) HZ1.out.r0 HZ1.out.r1
    have hW1 := below_step (below3 w _ _ _) hb1
    have hW2 := hW1.trans (hm2.below (by rw [HBE.out]; omega) hW1.size)
    exact bodyPost_ret_by (resRdK rfl rfl s0_ s1_) rfl ⟨rfl, (hW2.alloc hW2.size _).trans (stored2_below (show w.heap.size ≤ w.heap.size + 1 by omega))⟩
end Go.Proofs.Ytppoikhonlgcnaa
