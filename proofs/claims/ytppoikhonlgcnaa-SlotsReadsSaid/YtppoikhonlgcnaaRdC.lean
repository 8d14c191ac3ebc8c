/- The contracts of a codec's get and Read, at a leaf's cells. -/
import Derived.Test.YtppoikhonlgcnaaGetK
import Derived.Test.YtppoikhonlgcnaaBytC
namespace Go.Proofs.Ytppoikhonlgcnaa
open Go.RowKit
open Sl (Cl Kd)
theorem size1 (w : World) (o : Obj) : (w.alloc o).heap.size = w.heap.size + 1 := by simp
theorem size3 (w : World) (o1 o2 o3 : Obj) : (((w.alloc o1).alloc o2).alloc o3).heap.size = w.heap.size + 1 + 1 + 1 := by rw [size1, size2]
theorem over_at (s : ByteArray) (b : Nat) (w : World) (hb : w.heap.size = b) :
    Calls Try.prog 91 #[.string s] w fun e w' => e = .returned (.pointer (some ⟨b, 0, none⟩)) ∧ Rd w' b s 0 ∧ Below w.heap.size w w' := by
  subst hb; exact over_any s w
theorem alloc_at {W : World} {c : Array Value} {t : TypeId} {b : Nat} (i : Nat) (h : b = W.heap.size) : (W.alloc (.cells c t)).cell? ⟨b, i, none⟩ = c[i]? := by subst h; exact World.cell?_alloc_new W c t i
theorem alloc_free {W : World} {c : Array Value} {t : TypeId} {b : Nat} (i : Nat) (h : b = W.heap.size) : (W.alloc (.cells c t)).frozen? ⟨b, i, none⟩ = false := by subst h; exact World.frozen?_alloc_new W c t i
theorem old_at {W : World} {o : Obj} {b : Nat} (i : Nat) (h : b < W.heap.size) : (W.alloc o).cell? ⟨b, i, none⟩ = W.cell? ⟨b, i, none⟩ := World.cell?_alloc_old W o ⟨b, i, none⟩ (Nat.ne_of_lt h)
theorem old_free {W : World} {o : Obj} {b : Nat} (i : Nat) (h : b < W.heap.size) : (W.alloc o).frozen? ⟨b, i, none⟩ = W.frozen? ⟨b, i, none⟩ := World.frozen?_alloc_old W o ⟨b, i, none⟩ (Nat.ne_of_lt h)
theorem idleGetC (p : Addr) (w : World) :
    CallsD Try.prog 105 #[.pointer (some p)] .returning w fun e u' w' => e = .returned (.tuple #[]) ∧ u' = .returning ∧ w' = w := by
  refine callsD_of_wpS Try.func105 rfl fun c₀ cs hu => ?_
  apply wpS_seq
  apply wpS_region
  simp [wpOpsS, go_sem, recoverD, hu, Try.ntmps105, Exit.thenS]
  refine wpS_cond (t := false) (by simp [Act.eval, Array.replicate]) ?_
  simp only [Bool.false_eq_true, if_false]
  refine wpS_of_wp (wp_skip ?_)
  cases c₀
  simp_all [bodyPostS, results, Try.results105]
/-- An empty box of a leaf's cell. -/
structure RzC (w : World) (g : Nat) : Prop where
  r0 : w.cell? ⟨g, 0, none⟩ = some (.string ⟨#[]⟩)
  r1 : w.cell? ⟨g, 1, none⟩ = some (.string ⟨#[]⟩)
  r2 : w.cell? ⟨g, 2, none⟩ = some (.int .u32 0)
  r3 : w.cell? ⟨g, 3, none⟩ = some (.int .u32 0)
  p0 : w.frozen? ⟨g, 0, none⟩ = false
  p1 : w.frozen? ⟨g, 1, none⟩ = false
  p2 : w.frozen? ⟨g, 2, none⟩ = false
  p3 : w.frozen? ⟨g, 3, none⟩ = false
theorem RzC.lt {w : World} {g : Nat} (h : RzC w g) : g < w.heap.size := World.block_lt_of_cell? _ _ h.r0
theorem RzC.keep {w w' : World} {g : Nat} (h : RzC w g) (h0 : w'.heap[g]? = w.heap[g]?) : RzC w' g := by
  have c := fun o => World.cell?_of_block (w := w) (w' := w') (a := ⟨g, o, none⟩) h0
  have f := fun o => World.frozen?_of_block (w := w) (w' := w') (a := ⟨g, o, none⟩) h0
  exact ⟨(c 0).trans h.r0, (c 1).trans h.r1, (c 2).trans h.r2, (c 3).trans h.r3, (f 0).trans h.p0, (f 1).trans h.p1, (f 2).trans h.p2, (f 3).trans h.p3⟩
theorem RzC.mod {w w' : World} {g b : Nat} (h : RzC w g) (m : Mod b w w') (hb : g ≠ b) : RzC w' g := h.keep (m.block g h.lt hb)
theorem RzC.below {w w' : World} {g : Nat} (h : RzC w g) (m : Below w.heap.size w w') : RzC w' g := h.keep (m.block g h.lt)
theorem RzC.alloc {w : World} {g : Nat} (h : RzC w g) (o : Obj) : RzC (w.alloc o) g := h.below ((Below.refl _ _).alloc (Nat.le_refl _) _)
theorem RzC.new (w : World) (g : Nat) (hg : w.heap.size = g) : RzC (w.alloc (.cells #[.string ⟨#[]⟩, .string ⟨#[]⟩, .int .u32 0, .int .u32 0] 42)) g := by
  subst hg
  constructor <;> simp
set_option maxHeartbeats 1000000 in
theorem getC_any (b : Nat) (s : ByteArray) (e : Int) (w : World) (h : Rd w b s e) :
    Calls Try.prog 93 #[cdcC, .pointer (some ⟨b, 0, none⟩)] w fun x w' => x = .returned (aggC (gcR s e).1) ∧ Rd w' b (gcR s e).2.1 (gcR s e).2.2 ∧ Mod b w w' := by
  have hmf : ∀ (fn : Fn) (first cap : Array Value) (w : World), (Instr.makeFunc fn first cap).run Try.prog w = .ok (.func fn first cap) w := fun _ _ _ _ => rfl
  have HR := Lib.hid h
  have HLT := Lib.hid h.lt
  have HNE : Hid (w.heap.size + 1 + 1 ≠ b) := fun he => by have := HLT.out; omega
  have HZ := Lib.hid (fun o1 o2 => RzC.new ((w.alloc o1).alloc o2) (w.heap.size + 1 + 1) (size2 w o1 o2))
  clear h
  have HG := Lib.hid (fun W (hW : Rd W b s e) => getCell_any b s e W hW)
  revert HG
  generalize gcR s e = X
  obtain ⟨x, s1, e1⟩ := X
  intro HG
  unfold cdcC
  unfold aggC at HG ⊢
  simp only at HG ⊢
  go_enter_defers Try.func93, Try.ntmps93
  go_wp2_with (go_at_call 34; (refine (HG.out _ (((HR.out.alloc _).alloc _).alloc _)).mono ?_; rintro e w1 ⟨rfl, hr1, hm1⟩; have HZ1 := Lib.hid ((HZ.out _ _).mod hm1 HNE.out); have r0 := HZ1.out.r0; have r1 := HZ1.out.r1; have r2 := HZ1.out.r2; have r3 := HZ1.out.r3; have p0 := HZ1.out.p0; have p1 := HZ1.out.p1; have p2 := HZ1.out.p2; have p3 := HZ1.out.p3))
  obtain ⟨s0_, s1_, s2_, s3_⟩ := stored4 (v0 := .string (str x.key)) (v1 := .string (str x.val)) (v2 := .int .u32 x.chain) (v3 := .int .u32 x.long) HZ1.out.r0 HZ1.out.r1 HZ1.out.r2 HZ1.out.r3
  have hbe := stored4_below (w := w1) (v0 := .string (str x.key)) (v1 := .string (str x.val)) (v2 := .int .u32 x.chain) (v3 := .int .u32 x.long) (show w.heap.size ≤ w.heap.size + 1 + 1 by omega)
  refine leaves_cons (f := 105) (args := #[.pointer (some ⟨w.heap.size + 1, 0, none⟩)]) (by simp) (by simp [go_sem]) ?_
  refine (idleGetC ⟨w.heap.size + 1, 0, none⟩ _).mono ?_
  rintro e u' w'' ⟨rfl, rfl, rfl⟩
  simp [Leaves, settle, results, Try.results93, go_sem, s0_, s1_, s2_, s3_]
  exact ⟨hr1.below' hbe HLT.out, (Mod.old (Mod.old (Mod.old hm1))).step' hbe⟩
/-- What Read answers of any bytes. -/
def rdC (s : ByteArray) : Cl × Int :=
  let G := gcR s 0
  if fin G.2.1 G.2.2 = 0 then (G.1, 0) else (zeroC, fin G.2.1 G.2.2)
/-- The codec's box at g, two empty boxes behind it. -/
structure R3C (w : World) (g : Nat) : Prop where
  c0 : w.cell? ⟨g, 0, none⟩ = some (.func (.func 33) #[] #[])
  c1 : w.cell? ⟨g, 1, none⟩ = some (.func (.func 34) #[] #[])
  z1 : RzC w (g + 1)
  z2 : RzC w (g + 1 + 1)
theorem R3C.keep {w w' : World} {g : Nat} (h : R3C w g) (hk : ∀ k, k ≤ g + 1 + 1 → w'.heap[k]? = w.heap[k]?) : R3C w' g :=
  ⟨(World.cell?_of_block (w := w) (a := ⟨g, 0, none⟩) (hk g (by omega))).trans h.c0, (World.cell?_of_block (w := w) (a := ⟨g, 1, none⟩) (hk g (by omega))).trans h.c1, h.z1.keep (hk _ (by omega)), h.z2.keep (hk _ (by omega))⟩
theorem R3C.below {w w' : World} {g : Nat} (h : R3C w g) (hb : Below w.heap.size w w') : R3C w' g := h.keep fun k hk => hb.block k (by have := h.z2.lt; omega)
theorem R3C.mod {w w' : World} {g b : Nat} (h : R3C w g) (m : Mod b w w') (hb : g + 1 + 1 < b) : R3C w' g := h.keep fun k hk => m.block k (by have := h.z2.lt; omega) (by omega)
theorem R3C.alloc {w : World} {g : Nat} (h : R3C w g) (o : Obj) : R3C (w.alloc o) g := h.below ((Below.refl _ _).alloc (Nat.le_refl _) _)
theorem R3C.new (w : World) : R3C (((w.alloc (.cells #[.func (.func 33) #[] #[], .func (.func 34) #[] #[]] 96)).alloc (.cells #[.string ⟨#[]⟩, .string ⟨#[]⟩, .int .u32 0, .int .u32 0] 42)).alloc (.cells #[.string ⟨#[]⟩, .string ⟨#[]⟩, .int .u32 0, .int .u32 0] 42)) w.heap.size := by
  refine ⟨?_, ?_, ?_, ?_⟩
  · rw [old_at 0 (by rw [size2]; omega), old_at 0 (by rw [size1]; omega), alloc_at 0 rfl]; rfl
  · rw [old_at 1 (by rw [size2]; omega), old_at 1 (by rw [size1]; omega), alloc_at 1 rfl]; rfl
  · exact (RzC.new _ _ (by rw [size1])).alloc _
  · exact RzC.new _ _ (by rw [size2])
theorem resRdC {w : World} {g : Nat} {v0 v1 v2 v3 : Value} {e : Int} {tmps : Array Value} (ht : tmps[4]? = some (.pointer (some ⟨g, 0, none⟩))) (h5 : tmps[5]? = some (.int .i64 e))
    (h0_ : w.cell? ⟨g, 0, none⟩ = some v0) (h1_ : w.cell? ⟨g, 1, none⟩ = some v1) (h2_ : w.cell? ⟨g, 2, none⟩ = some v2) (h3_ : w.cell? ⟨g, 3, none⟩ = some v3) :
    (results Try.f60 tmps).run Try.prog w = .ok (.tuple #[.agg #[v0, v1, v2, v3], .int .i64 e]) w := by
  simp [results, Try.results60, go_sem, ht, h5, h0_, h1_, h2_, h3_]
set_option maxHeartbeats 1000000 in
theorem rdC_any (s : ByteArray) (w : World) :
    Calls Try.prog 60 #[cdcC, .string s] w fun x w' => x = .returned (.tuple #[aggC (rdC s).1, .int .i64 (rdC s).2]) ∧ Below w.heap.size w w' := by
  have heq : ∀ w, (binOp .eql 26 (.func (.func 34) #[] #[]) .nilFunc).run Try.prog w = .ok (.bool false) w := fun w => by kernel_rfl
  have H0 := Lib.hid (R3C.new w)
  have HG := Lib.hid (fun b W (hW : Rd W b s 0) => getC_any b s 0 W hW)
  unfold rdC
  revert HG
  generalize gcR s 0 = X
  obtain ⟨x, s1, e1⟩ := X
  intro HG
  simp only at HG ⊢
  have HE := Lib.hid (fun b W (hW : Rd W b s1 e1) => end_rd b s1 e1 W hW)
  revert HE
  generalize fin s1 e1 = f
  intro HE
  unfold cdcC at HG ⊢
  unfold aggC at HG ⊢
  obtain ⟨b, hb⟩ : ∃ b, b = w.heap.size + 1 + 1 + 1 := ⟨_, rfl⟩
  have HBE := Lib.hid hb
  clear hb
  by_cases hf : f = 0
  · subst hf
    rw [if_pos rfl]
    go_enter Try.func60, Try.ntmps60
    go_wp2_with (first
      | (go_at_call 91; refine (over_at _ b _ (by rw [size3, HBE.out])).mono ?_; rintro e w1 ⟨rfl, hr1, hb1⟩; have HR1 := Lib.hid (H0.out.below hb1); have q0 := HR1.out.c0; have q1 := HR1.out.c1)
      | (go_at_call 93; refine (HG.out _ _ hr1).mono ?_; rintro e w2 ⟨rfl, hr2, hm2⟩; have HR2 := Lib.hid ((HR1.out.mod hm2 (by rw [HBE.out]; omega)).alloc (.cells #[.string (str x.key), .string (str x.val), .int .u32 x.chain, .int .u32 x.long] 42)))
      | (go_at_call 94; refine (HE.out _ _ (hr2.alloc _)).mono ?_; rintro e w3 ⟨rfl, rfl⟩; have HZ1 := Lib.hid HR2.out.z1; have r0 := HZ1.out.r0; have r1 := HZ1.out.r1; have r2 := HZ1.out.r2; have r3 := HZ1.out.r3; have p0 := HZ1.out.p0; have p1 := HZ1.out.p1; have p2 := HZ1.out.p2; have p3 := HZ1.out.p3))
    obtain ⟨s0_, s1_, s2_, s3_⟩ := stored4 (v0 := .string (str x.key)) (v1 := .string (str x.val)) (v2 := .int .u32 x.chain) (v3 := .int .u32 x.long) HZ1.out.r0 HZ1.out.r1 HZ1.out.r2 HZ1.out.r3
    have hW1 := below_step (below3 w _ _ _) hb1
    have hW2 := hW1.trans (hm2.below (by rw [HBE.out]; omega) hW1.size)
    exact bodyPost_ret_by (resRdC rfl rfl s0_ s1_ s2_ s3_) rfl ⟨rfl, (hW2.alloc hW2.size _).trans (stored4_below (show w.heap.size ≤ w.heap.size + 1 by omega))⟩
  · have hf' : (f != 0) = true := by rw [bne_iff_ne]; exact hf
    rw [if_neg hf]
    go_enter Try.func60, Try.ntmps60
    go_wp2_with (first
      | (go_at_call 91; refine (over_at _ b _ (by rw [size3, HBE.out])).mono ?_; rintro e w1 ⟨rfl, hr1, hb1⟩; have HR1 := Lib.hid (H0.out.below hb1); have q0 := HR1.out.c0; have q1 := HR1.out.c1)
      | (go_at_call 93; refine (HG.out _ _ hr1).mono ?_; rintro e w2 ⟨rfl, hr2, hm2⟩; have HR2 := Lib.hid ((HR1.out.mod hm2 (by rw [HBE.out]; omega)).alloc (.cells #[.string (str x.key), .string (str x.val), .int .u32 x.chain, .int .u32 x.long] 42)))
      | (go_at_call 94; refine (HE.out _ _ (hr2.alloc _)).mono ?_; rintro e w3 ⟨rfl, rfl⟩; have HZ1 := Lib.hid HR2.out.z1; have HZ2 := Lib.hid HR2.out.z2; have r0 := HZ1.out.r0; have r1 := HZ1.out.r1; have r2 := HZ1.out.r2; have r3 := HZ1.out.r3; have p0 := HZ1.out.p0; have p1 := HZ1.out.p1; have p2 := HZ1.out.p2; have p3 := HZ1.out.p3; have m0 := HZ2.out.r0; have m1 := HZ2.out.r1; have m2 := HZ2.out.r2; have m3 := HZ2.out.r3))
    obtain ⟨s0_, s1_, s2_, s3_⟩ := stored4 (v0 := .string ⟨#[]⟩) (v1 := .string ⟨#[]⟩) (v2 := .int .u32 0) (v3 := .int .u32 0) HZ1.out.r0 HZ1.out.r1 HZ1.out.r2 HZ1.out.r3
    have hW1 := below_step (below3 w _ _ _) hb1
    have hW2 := hW1.trans (hm2.below (by rw [HBE.out]; omega) hW1.size)
    exact bodyPost_ret_by (resRdC rfl rfl s0_ s1_ s2_ s3_) rfl ⟨rfl, (hW2.alloc hW2.size _).trans (stored4_below (show w.heap.size ≤ w.heap.size + 1 by omega))⟩
end Go.Proofs.Ytppoikhonlgcnaa
