/- Texts of one seat, merged. -/
import Derived.Test.YtemfbkelenaaeaaGreatB13
import Derived.Test.YtemfbkelenaaeaaGreatB02
import Derived.OwnWalk
import Derived.Laws.OwnMore
import Derived.Test.YtemfbkelenaaeaaGreatB03
set_option maxRecDepth 100000
set_option maxHeartbeats 4000000
set_option linter.unusedVariables false
/- The contracts of a codec's get and Read, at a leaf's cells. -/
namespace Go.Proofs.YtemfbkelenaaeaaGreat
open Go.RowKit
open Sl (Cl Kd)
theorem size1 (w : World) (o : Obj) : (w.alloc o).heap.size = w.heap.size + 1 := by simp
theorem size3 (w : World) (o1 o2 o3 : Obj) : (((w.alloc o1).alloc o2).alloc o3).heap.size = w.heap.size + 1 + 1 + 1 := by rw [size1, size2]
theorem over_at (s : ByteArray) (b : Nat) (w : World) (hb : w.heap.size = b) :
    Calls Tryz.prog 109 #[.string s] w fun e w' => e = .returned (.pointer (some ⟨b, 0, none⟩)) ∧ Rd w' b s 0 ∧ Below w.heap.size w w' := by
  subst hb; exact over_any s w
theorem alloc_at {W : World} {c : Array Value} {t : TypeId} {b : Nat} (i : Nat) (h : b = W.heap.size) : (W.alloc (.cells c t)).cell? ⟨b, i, none⟩ = c[i]? := by subst h; exact World.cell?_alloc_new W c t i
theorem alloc_free {W : World} {c : Array Value} {t : TypeId} {b : Nat} (i : Nat) (h : b = W.heap.size) : (W.alloc (.cells c t)).frozen? ⟨b, i, none⟩ = false := by subst h; exact World.frozen?_alloc_new W c t i
theorem old_at {W : World} {o : Obj} {b : Nat} (i : Nat) (h : b < W.heap.size) : (W.alloc o).cell? ⟨b, i, none⟩ = W.cell? ⟨b, i, none⟩ := World.cell?_alloc_old W o ⟨b, i, none⟩ (Nat.ne_of_lt h)
theorem old_free {W : World} {o : Obj} {b : Nat} (i : Nat) (h : b < W.heap.size) : (W.alloc o).frozen? ⟨b, i, none⟩ = W.frozen? ⟨b, i, none⟩ := World.frozen?_alloc_old W o ⟨b, i, none⟩ (Nat.ne_of_lt h)
theorem idleGetC (p : Addr) (w : World) :
    CallsD Tryz.prog 122 #[.pointer (some p)] .returning w fun e u' w' => e = .returned (.tuple #[]) ∧ u' = .returning ∧ w' = w := by
  refine callsD_of_wpS Tryz.func122 rfl fun c₀ cs hu => ?_
  apply wpS_seq
  apply wpS_region
  simp [wpOpsS, go_sem, recoverD, hu, Tryz.ntmps122, Exit.thenS]
  refine wpS_cond (t := false) (by simp [Act.eval, Array.replicate]) ?_
  simp only [Bool.false_eq_true, if_false]
  refine wpS_of_wp (wp_skip ?_)
  cases c₀
  simp_all [bodyPostS, results, Tryz.results122]
/-- An empty box of a leaf's cell. -/
structure RzC (w : World) (g : Nat) : Prop where
  r0 : w.cell? ⟨g, 0, none⟩ = some (.string ⟨#[]⟩)
  r1 : w.cell? ⟨g, 1, none⟩ = some (.string ⟨#[]⟩)
  r2 : w.cell? ⟨g, 2, none⟩ = some (.int .u32 0)
  r3 : w.cell? ⟨g, 3, none⟩ = some (.int .u32 0)
  p0 : w.frozen? ⟨g, 0, none⟩ = false
  p1 : w.frozen? ⟨g, 1, none⟩ = false
  p2 : w.frozen? ⟨g, 2, none⟩ = false
  p3 : w.frozen? ⟨g, 3, none⟩ = false
theorem RzC.lt {w : World} {g : Nat} (h : RzC w g) : g < w.heap.size := World.block_lt_of_cell? _ _ h.r0
theorem RzC.keep {w w' : World} {g : Nat} (h : RzC w g) (h0 : w'.heap[g]? = w.heap[g]?) : RzC w' g := by
  have c := fun o => World.cell?_of_block (w := w) (w' := w') (a := ⟨g, o, none⟩) h0
  have f := fun o => World.frozen?_of_block (w := w) (w' := w') (a := ⟨g, o, none⟩) h0
  exact ⟨(c 0).trans h.r0, (c 1).trans h.r1, (c 2).trans h.r2, (c 3).trans h.r3, (f 0).trans h.p0, (f 1).trans h.p1, (f 2).trans h.p2, (f 3).trans h.p3⟩
theorem RzC.mod {w w' : World} {g b : Nat} (h : RzC w g) (m : Mod b w w') (hb : g ≠ b) : RzC w' g := h.keep (m.block g h.lt hb)
theorem RzC.below {w w' : World} {g : Nat} (h : RzC w g) (m : Below w.heap.size w w') : RzC w' g := h.keep (m.block g h.lt)
theorem RzC.alloc {w : World} {g : Nat} (h : RzC w g) (o : Obj) : RzC (w.alloc o) g := h.below ((Below.refl _ _).alloc (Nat.le_refl _) _)
theorem RzC.new (w : World) (g : Nat) (hg : w.heap.size = g) : RzC (w.alloc (.cells #[.string ⟨#[]⟩, .string ⟨#[]⟩, .int .u32 0, .int .u32 0] 52)) g := by
  subst hg
  constructor <;> simp
set_option maxHeartbeats 1000000 in
theorem getC_any (b : Nat) (s : ByteArray) (e : Int) (w : World) (h : Rd w b s e) :
    Calls Tryz.prog 111 #[cdcC, .pointer (some ⟨b, 0, none⟩)] w fun x w' => x = .returned (aggC (gcR s e).1) ∧ Rd w' b (gcR s e).2.1 (gcR s e).2.2 ∧ Mod b w w' := by
  have hmf : ∀ (fn : Fn) (first cap : Array Value) (w : World), (Instr.makeFunc fn first cap).run Tryz.prog w = .ok (.func fn first cap) w := fun _ _ _ _ => rfl
  have HR := Lib.hid h
  have HLT := Lib.hid h.lt
  have HNE : Hid (w.heap.size + 1 + 1 ≠ b) := fun he => by have := HLT.out; omega
  have HZ := Lib.hid (fun o1 o2 => RzC.new ((w.alloc o1).alloc o2) (w.heap.size + 1 + 1) (size2 w o1 o2))
  clear h
  have HG := Lib.hid (fun W (hW : Rd W b s e) => getCell_any b s e W hW)
  revert HG
  generalize gcR s e = X
  obtain ⟨x, s1, e1⟩ := X
  intro HG
  unfold cdcC
  unfold aggC at HG ⊢
  simp only at HG ⊢
  go_enter_defers Tryz.func111, Tryz.ntmps111
  go_wp2_with (go_at_call 54; (refine (HG.out _ (((HR.out.alloc _).alloc _).alloc _)).mono ?_; rintro e w1 ⟨rfl, hr1, hm1⟩; have HZ1 := Lib.hid ((HZ.out _ _).mod hm1 HNE.out); have r0 := HZ1.out.r0; have r1 := HZ1.out.r1; have r2 := HZ1.out.r2; have r3 := HZ1.out.r3; have p0 := HZ1.out.p0; have p1 := HZ1.out.p1; have p2 := HZ1.out.p2; have p3 := HZ1.out.p3))
  obtain ⟨s0_, s1_, s2_, s3_⟩ := stored4 (v0 := .string (str x.key)) (v1 := .string (str x.val)) (v2 := .int .u32 x.chain) (v3 := .int .u32 x.long) HZ1.out.r0 HZ1.out.r1 HZ1.out.r2 HZ1.out.r3
  have hbe := stored4_below (w := w1) (v0 := .string (str x.key)) (v1 := .string (str x.val)) (v2 := .int .u32 x.chain) (v3 := .int .u32 x.long) (show w.heap.size ≤ w.heap.size + 1 + 1 by omega)
  refine leaves_cons (f := 122) (args := #[.pointer (some ⟨w.heap.size + 1, 0, none⟩)]) (by simp) (by simp [go_sem]) ?_
  refine (idleGetC ⟨w.heap.size + 1, 0, none⟩ _).mono ?_
  rintro e u' w'' ⟨rfl, rfl, rfl⟩
  simp [Leaves, settle, results, Tryz.results111, go_sem, s0_, s1_, s2_, s3_]
  exact ⟨hr1.below' hbe HLT.out, (Mod.old (Mod.old (Mod.old hm1))).step' hbe⟩
/-- What Read answers of any bytes. -/
def rdC (s : ByteArray) : Cl × Int :=
  let G := gcR s 0
  if fin G.2.1 G.2.2 = 0 then (G.1, 0) else (zeroC, fin G.2.1 G.2.2)
/-- The codec's box at g, two empty boxes behind it. -/
structure R3C (w : World) (g : Nat) : Prop where
  c0 : w.cell? ⟨g, 0, none⟩ = some (.func (.func 53) #[] #[])
  c1 : w.cell? ⟨g, 1, none⟩ = some (.func (.func 54) #[] #[])
  z1 : RzC w (g + 1)
  z2 : RzC w (g + 1 + 1)
theorem R3C.keep {w w' : World} {g : Nat} (h : R3C w g) (hk : ∀ k, k ≤ g + 1 + 1 → w'.heap[k]? = w.heap[k]?) : R3C w' g :=
  ⟨(World.cell?_of_block (w := w) (a := ⟨g, 0, none⟩) (hk g (by omega))).trans h.c0, (World.cell?_of_block (w := w) (a := ⟨g, 1, none⟩) (hk g (by omega))).trans h.c1, h.z1.keep (hk _ (by omega)), h.z2.keep (hk _ (by omega))⟩
theorem R3C.below {w w' : World} {g : Nat} (h : R3C w g) (hb : Below w.heap.size w w') : R3C w' g := h.keep fun k hk => hb.block k (by have := h.z2.lt; omega)
theorem R3C.mod {w w' : World} {g b : Nat} (h : R3C w g) (m : Mod b w w') (hb : g + 1 + 1 < b) : R3C w' g := h.keep fun k hk => m.block k (by have := h.z2.lt; omega) (by omega)
theorem R3C.alloc {w : World} {g : Nat} (h : R3C w g) (o : Obj) : R3C (w.alloc o) g := h.below ((Below.refl _ _).alloc (Nat.le_refl _) _)
theorem R3C.new (w : World) : R3C (((w.alloc (.cells #[.func (.func 53) #[] #[], .func (.func 54) #[] #[]] 119)).alloc (.cells #[.string ⟨#[]⟩, .string ⟨#[]⟩, .int .u32 0, .int .u32 0] 52)).alloc (.cells #[.string ⟨#[]⟩, .string ⟨#[]⟩, .int .u32 0, .int .u32 0] 52)) w.heap.size := by
  refine ⟨?_, ?_, ?_, ?_⟩
  · rw [old_at 0 (by rw [size2]; omega), old_at 0 (by rw [size1]; omega), alloc_at 0 rfl]; rfl
  · rw [old_at 1 (by rw [size2]; omega), old_at 1 (by rw [size1]; omega), alloc_at 1 rfl]; rfl
  · exact (RzC.new _ _ (by rw [size1])).alloc _
  · exact RzC.new _ _ (by rw [size2])
theorem resRdC {w : World} {g : Nat} {v0 v1 v2 v3 : Value} {e : Int} {tmps : Array Value} (ht : tmps[4]? = some (.pointer (some ⟨g, 0, none⟩))) (h5 : tmps[5]? = some (.int .i64 e))
    (h0_ : w.cell? ⟨g, 0, none⟩ = some v0) (h1_ : w.cell? ⟨g, 1, none⟩ = some v1) (h2_ : w.cell? ⟨g, 2, none⟩ = some v2) (h3_ : w.cell? ⟨g, 3, none⟩ = some v3) :
    (results Tryz.f81 tmps).run Tryz.prog w = .ok (.tuple #[.agg #[v0, v1, v2, v3], .int .i64 e]) w := by
  simp [results, Tryz.results81, go_sem, ht, h5, h0_, h1_, h2_, h3_]
set_option maxHeartbeats 1000000 in
theorem rdC_any (s : ByteArray) (w : World) :
    Calls Tryz.prog 81 #[cdcC, .string s] w fun x w' => x = .returned (.tuple #[aggC (rdC s).1, .int .i64 (rdC s).2]) ∧ Below w.heap.size w w' := by
  have heq : ∀ w, (binOp .eql 63 (.func (.func 54) #[] #[]) .nilFunc).run Tryz.prog w = .ok (.bool false) w := fun w => by kernel_rfl
  have H0 := Lib.hid (R3C.new w)
  have HG := Lib.hid (fun b W (hW : Rd W b s 0) => getC_any b s 0 W hW)
  unfold rdC
  revert HG
  generalize gcR s 0 = X
  obtain ⟨x, s1, e1⟩ := X
  intro HG
  simp only at HG ⊢
  have HE := Lib.hid (fun b W (hW : Rd W b s1 e1) => end_rd b s1 e1 W hW)
  revert HE
  generalize fin s1 e1 = f
  intro HE
  unfold cdcC at HG ⊢
  unfold aggC at HG ⊢
  obtain ⟨b, hb⟩ : ∃ b, b = w.heap.size + 1 + 1 + 1 := ⟨_, rfl⟩
  have HBE := Lib.hid hb
  clear hb
  by_cases hf : f = 0
  · subst hf
    rw [if_pos rfl]
    go_enter Tryz.func81, Tryz.ntmps81
    go_wp2_with (first
      | (go_at_call 109; refine (over_at _ b _ (by rw [size3, HBE.out])).mono ?_; rintro e w1 ⟨rfl, hr1, hb1⟩; have HR1 := Lib.hid (H0.out.below hb1); have q0 := HR1.out.c0; have q1 := HR1.out.c1)
      | (go_at_call 111; refine (HG.out _ _ hr1).mono ?_; rintro e w2 ⟨rfl, hr2, hm2⟩; have HR2 := Lib.hid ((HR1.out.mod hm2 (by rw [HBE.out]; omega)).alloc (.cells #[.string (str x.key), .string (str x.val), .int .u32 x.chain, .int .u32 x.long] 52)))
      | (go_at_call 112; refine (HE.out _ _ (hr2.alloc _)).mono ?_; rintro e w3 ⟨rfl, rfl⟩; have HZ1 := Lib.hid HR2.out.z1; have r0 := HZ1.out.r0; have r1 := HZ1.out.r1; have r2 := HZ1.out.r2; have r3 := HZ1.out.r3; have p0 := HZ1.out.p0; have p1 := HZ1.out.p1; have p2 := HZ1.out.p2; have p3 := HZ1.out.p3))
    obtain ⟨s0_, s1_, s2_, s3_⟩ := stored4 (v0 := .string (str x.key)) (v1 := .string (str x.val)) (v2 := .int .u32 x.chain) (v3 := .int .u32 x.long) HZ1.out.r0 HZ1.out.r1 HZ1.out.r2 HZ1.out.r3
    have hW1 := below_step (below3 w _ _ _) hb1
    have hW2 := hW1.trans (hm2.below (by rw [HBE.out]; omega) hW1.size)
    exact bodyPost_ret_by (resRdC rfl rfl s0_ s1_ s2_ s3_) rfl ⟨rfl, (hW2.alloc hW2.size _).trans (stored4_below (show w.heap.size ≤ w.heap.size + 1 by omega))⟩
  · have hf' : (f != 0) = true := by rw [bne_iff_ne]; exact hf
    rw [if_neg hf]
    go_enter Tryz.func81, Tryz.ntmps81
    go_wp2_with (first
      | (go_at_call 109; refine (over_at _ b _ (by rw [size3, HBE.out])).mono ?_; rintro e w1 ⟨rfl, hr1, hb1⟩; have HR1 := Lib.hid (H0.out.below hb1); have q0 := HR1.out.c0; have q1 := HR1.out.c1)
      | (go_at_call 111; refine (HG.out _ _ hr1).mono ?_; rintro e w2 ⟨rfl, hr2, hm2⟩; have HR2 := Lib.hid ((HR1.out.mod hm2 (by rw [HBE.out]; omega)).alloc (.cells #[.string (str x.key), .string (str x.val), .int .u32 x.chain, .int .u32 x.long] 52)))
      | (go_at_call 112; refine (HE.out _ _ (hr2.alloc _)).mono ?_; rintro e w3 ⟨rfl, rfl⟩; have HZ1 := Lib.hid HR2.out.z1; have HZ2 := Lib.hid HR2.out.z2; have r0 := HZ1.out.r0; have r1 := HZ1.out.r1; have r2 := HZ1.out.r2; have r3 := HZ1.out.r3; have p0 := HZ1.out.p0; have p1 := HZ1.out.p1; have p2 := HZ1.out.p2; have p3 := HZ1.out.p3; have m0 := HZ2.out.r0; have m1 := HZ2.out.r1; have m2 := HZ2.out.r2; have m3 := HZ2.out.r3))
    obtain ⟨s0_, s1_, s2_, s3_⟩ := stored4 (v0 := .string ⟨#[]⟩) (v1 := .string ⟨#[]⟩) (v2 := .int .u32 0) (v3 := .int .u32 0) HZ1.out.r0 HZ1.out.r1 HZ1.out.r2 HZ1.out.r3
    have hW1 := below_step (below3 w _ _ _) hb1
    have hW2 := hW1.trans (hm2.below (by rw [HBE.out]; omega) hW1.size)
    exact bodyPost_ret_by (resRdC rfl rfl s0_ s1_ s2_ s3_) rfl ⟨rfl, (hW2.alloc hW2.size _).trans (stored4_below (show w.heap.size ≤ w.heap.size + 1 by omega))⟩
end Go.Proofs.YtemfbkelenaaeaaGreat
/- What cut answers, and what its memory holds; the row that make lays. -/
namespace Go.Proofs.YtemfbkelenaaeaaGreat
open Go.RowKit
theorem ext_drop (l : List UInt8) (n : Nat) : (str l).extract n l.length = str (l.drop n) := by
  apply ByteArray.ext
  simp [str]
  rw [List.take_of_length_le (by simp)]
theorem tk_str (l : List UInt8) (n : Nat) (h : n ≤ l.length) : tk (str l) 0 n = (str (l.take n), str (l.drop n), 0) := by
  rw [tk_ok (str l) n (by rw [str_size]; exact h), str_size, ext_drop]
  have := str_take l n
  rw [Nat.min_eq_right h] at this
  rw [this]
def slotAt (s : List UInt8) (j : Nat) : Nat := Oc.val ((s.drop (2 * j)).take 2)
theorem slotAt_lt (s : List UInt8) (j : Nat) : slotAt s j < 65536 := by
  have h := Oc.val_lt ((s.drop (2 * j)).take 2)
  have h2 : ((s.drop (2 * j)).take 2).length ≤ 2 := List.length_take_le _ _
  exact Nat.lt_of_lt_of_le h (Nat.pow_le_pow_right (by omega) h2)
def bsOf (s : List UInt8) (c : Nat) : List Nat := (List.range c).map (slotAt s) ++ [s.length]
theorem bsOf_len (s : List UInt8) (c : Nat) : (bsOf s c).length = c + 1 := by simp [bsOf]
def CutGood (s : List UInt8) (n : Int) : Prop := 0 ≤ n ∧ n ≤ (s.length / 2 : Nat) ∧ (bsOf s n.toNat).getD 0 0 = 2 * n.toNat ∧ ∀ i, i + 1 < n.toNat + 1 → (bsOf s n.toNat).getD i 0 ≤ (bsOf s n.toNat).getD (i + 1) 0
def pieceAt (s : List UInt8) (c i : Nat) : List UInt8 := (s.drop ((bsOf s c).getD i 0)).take ((bsOf s c).getD (i + 1) 0 - (bsOf s c).getD i 0)
def pieces (s : List UInt8) (c : Nat) : List (List UInt8) := (List.range c).map (pieceAt s c)
def SlT (w : World) (v : Value) (l : List (List UInt8)) : Prop :=
  ∃ (a : Option Addr) (b o c : Nat), v = .slice a l.length c ∧ (l = [] ∨ a = some ⟨b, o, none⟩) ∧ ∀ (j : Nat) x, l[j]? = some x → w.cell? ⟨b, o + j, none⟩ = some (.string (str x))
theorem SlT.below {w w' : World} {v : Value} {l : List (List UInt8)} (h : SlT w v l) (hb : Below w.heap.size w w') : SlT w' v l := by
  obtain ⟨a, b, o, c, hv, ha, hx⟩ := h
  exact ⟨a, b, o, c, hv, ha, fun j p hj => (hb.cell (p := ⟨b, o + j, none⟩) (World.block_lt_of_cell? _ _ (hx j p hj))).trans (hx j p hj)⟩
theorem SlT.own {w : World} {B : Nat} {e : TypeId} {v : Value} {l : List (List UInt8)} (h : w.ownsRow B e 1 v l.length (l.map fun p => .string (str p))) : SlT w v l := by
  have hw := h
  obtain ⟨_, h1⟩ := h
  rcases h1 with ⟨rfl, h0⟩ | ⟨g, cap, cur, rfl, _⟩
  · obtain rfl : l = [] := List.length_eq_zero_iff.1 h0
    exact ⟨none, 0, 0, 0, rfl, .inl rfl, fun j p h => by simp at h⟩
  · refine ⟨_, g, 0, cap, rfl, .inr rfl, fun j p hj => ?_⟩
    have hlt := (List.getElem?_eq_some_iff.1 hj).1
    have := hw.cellAt j (by omega)
    rw [List.getElem?_map, hj] at this
    simpa using this
inductive CutOut (s : List UInt8) (n : Int) (w : World) (e : Ending) (w' : World) : Prop
  | bad (h : ¬ CutGood s n) (he : e = .returned (.tuple #[.slice none 0 0, .bool false])) (hb : Below w.heap.size w w')
  | ok (h : CutGood s n) (v : Value) (he : e = .returned (.tuple #[v, .bool true])) (hv : SlT w' v (pieces s n.toNat)) (hb : Below w.heap.size w w')
theorem made_row (w : World) (z : Value) (c cap : Nat) (e : TypeId) (hc : c ≤ cap) (hm : cap ≤ maxLen) :
    (w.alloc (.cells (madeCells #[z] cap) e)).ownsRow w.heap.size e 1 (.slice (some ⟨w.heap.size, 0, none⟩) c cap) c (List.replicate c z) := by
  refine ⟨by simp, .inr ⟨w.heap.size, cap, madeCells #[z] cap, rfl, Nat.le_refl _, heap_alloc_new w _, hc, hm, by rw [size_madeCells, Nat.mul_one], ?_⟩⟩
  rw [toList_madeCells_one, List.take_replicate, Nat.mul_one, Nat.min_eq_left hc]
theorem info3 : (Tryz.prog.info? 3).map (fun i => (i.zero, i.size, i.bytes)) = some (some (.int .i64 0), 1, 8) := by kernel_rfl
theorem info9 : (Tryz.prog.info? 9).map (fun i => (i.zero, i.size, i.bytes)) = some (some (.string ByteArray.empty), 1, 16) := by kernel_rfl
theorem make_ints (c : Nat) (h : c ≤ 100000) (W : World) : (Instr.makeSlice 164 (.int .i64 c) (.int .i64 ((c : Int) + 1))).run Tryz.prog W = .ok (.slice (some ⟨W.heap.size, 0, none⟩) c (c + 1)) (W.alloc (.cells (madeCells #[.int .i64 0] (c + 1)) 3)) := by
  obtain ⟨i, hi, hz, hs, hb⟩ := info_parts info3
  have := run_makeSlice (P := Tryz.prog) W 164 3 i (.int .i64 0) Tryz.underlying164 hi hz .i64 .i64 c ((c : Int) + 1) (by omega) (by omega) (by rw [hs]; omega) (by rw [hb]; omega) (by omega)
  rw [this, hs]
  simp only [Int.toNat_natCast, show ((c : Int) + 1).toNat = c + 1 by omega, Nat.mul_one]
  rfl
theorem make_texts (c : Nat) (h : c ≤ 100000) (W : World) : (Instr.makeSlice 131 (.int .i64 c) (.int .i64 c)).run Tryz.prog W = .ok (.slice (some ⟨W.heap.size, 0, none⟩) c c) (W.alloc (.cells (madeCells #[.string ByteArray.empty] c) 9)) := by
  obtain ⟨i, hi, hz, hs, hb⟩ := info_parts info9
  have := run_makeSlice (P := Tryz.prog) W 131 9 i (.string ByteArray.empty) Tryz.underlying131 hi hz .i64 .i64 c c (by omega) (by omega) (by rw [hs]; omega) (by rw [hb]; omega) (by omega)
  rw [this, hs]
  simp only [Int.toNat_natCast, Nat.mul_one]
  rfl
theorem set_next {α : Type} (f : Nat → α) (z : α) (c k : Nat) (h : k < c) : ((List.range k).map f ++ List.replicate (c - k) z).set k (f k) = (List.range (k + 1)).map f ++ List.replicate (c - (k + 1)) z := by
  obtain ⟨d, hd⟩ : ∃ d, c - k = d + 1 := ⟨c - k - 1, by omega⟩
  rw [hd, List.replicate_succ, List.set_append_right _ _ (by simp), show k - ((List.range k).map f).length = 0 by simp, List.set_cons_zero, List.range_succ, List.map_append, show c - (k + 1) = d by omega]
  simp
theorem ext_mid (l : List UInt8) (a b : Nat) : (str l).extract a b = str ((l.drop a).take (b - a)) := by
  apply ByteArray.ext
  simp [str]
theorem bs_le (s : List UInt8) (c : Nat) (h : ∀ i, i + 1 < (bsOf s c).length → (bsOf s c).getD i 0 ≤ (bsOf s c).getD (i + 1) 0) : ∀ j, j ≤ c → (bsOf s c).getD j 0 ≤ s.length := by
  have hl := bsOf_len s c
  have last : (bsOf s c).getD c 0 = s.length := by unfold bsOf; simp
  have go : ∀ d j, j + d = c → (bsOf s c).getD j 0 ≤ s.length := by
    intro d
    induction d with
    | zero => intro j hj; rw [show j = c by omega, last]; exact Nat.le_refl _
    | succ d ih => intro j hj; exact Nat.le_trans (h j (by omega)) (ih (j + 1) (by omega))
  intro j hj
  exact go (c - j) j (by omega)
end Go.Proofs.YtemfbkelenaaeaaGreat
/- What is read of bytes by the readers' steps, and the bytes that say so. -/
namespace Go.Proofs.YtemfbkelenaaeaaGreat
open Go.RowKit
open Sl (Cl Kd)
theorem tk_app (a r : List UInt8) : tk (str (a ++ r)) 0 a.length = (str a, str r, 0) := by
  rw [tk_str (a ++ r) a.length (by rw [List.length_append]; omega), List.take_left, List.drop_left]
theorem tk_app' (n : Nat) (a r : List UInt8) (h : a.length = n) : tk (str (a ++ r)) 0 n = (str a, str r, 0) := by subst h; exact tk_app a r
theorem tk_good (s : List UInt8) (n : Nat) (h : (tk (str s) 0 n).2.2 = 0) : ∃ a r, s = a ++ r ∧ a.length = n ∧ tk (str s) 0 n = (str a, str r, 0) := by
  by_cases hn : n ≤ s.length
  · refine ⟨s.take n, s.drop n, (List.take_append_drop n s).symm, by rw [List.length_take]; omega, tk_str s n hn⟩
  · rw [tk_short (str s) n (.inr (by rw [str_size]; omega))] at h
    cases h
theorem tk_err (s : ByteArray) (e n : Int) (h : e ≠ 0) : (tk s e n).2.2 ≠ 0 := by rw [tk_bad s e n h]; exact h
theorem val_big1 (n : Nat) (h : n < 256) : Oc.val (Oc.big 1 n) = n := Oc.val_big 1 n (by omega)
theorem val_big2 (n : Nat) (h : n < 65536) : Oc.val (Oc.big 2 n) = n := Oc.val_big 2 n (by omega)
theorem val_big4 (n : Nat) (h : n < 4294967296) : Oc.val (Oc.big 4 n) = n := Oc.val_big 4 n (by omega)
theorem big_val' (k : Nat) (l : List UInt8) (h : l.length = k) : Oc.big k (Oc.val l) = l := Oc.big_val k l h
theorem val_lt1 (l : List UInt8) (h : l.length = 1) : Oc.val l < 256 := by have := Oc.val_lt l; rw [h] at this; exact this
theorem val_lt2 (l : List UInt8) (h : l.length = 2) : Oc.val l < 65536 := by have := Oc.val_lt l; rw [h] at this; exact this
theorem val_lt4 (l : List UInt8) (h : l.length = 4) : Oc.val l < 4294967296 := by have := Oc.val_lt l; rw [h] at this; exact this
theorem encKey_short (k : List UInt8) (h : k.length ≤ 255) : Sl.encKey k = Oc.big 1 k.length ++ k := by
  unfold Sl.encKey; rw [Nat.min_eq_left h, List.take_of_length_le h]
theorem ky_app (k r : List UInt8) (h : k.length ≤ 255) : kyR (str (Sl.encKey k ++ r)) 0 = (str k, str r, 0) := by
  unfold kyR
  rw [encKey_short k h, List.append_assoc, show ((1 : Int)) = ((1 : Nat) : Int) from rfl, tk_app' 1 _ _ (Oc.big_length 1 _)]
  simp only [str_data]
  rw [val_big1 _ (by omega), tk_app]
theorem ky_good (s : List UInt8) (h : (kyR (str s) 0).2.2 = 0) : ∃ k r, s = Sl.encKey k ++ r ∧ k.length ≤ 255 ∧ kyR (str s) 0 = (str k, str r, 0) := by
  unfold kyR at h ⊢
  have h1 : (tk (str s) 0 1).2.2 = 0 := by
    cases Classical.em ((tk (str s) 0 1).2.2 = 0) with
    | inl h1 => exact h1
    | inr h1 => exact absurd h (tk_err _ _ _ h1)
  obtain ⟨a, r, rfl, ha, h2⟩ := tk_good s 1 h1
  rw [show ((1 : Int)) = ((1 : Nat) : Int) from rfl, h2] at h ⊢
  simp only [str_data] at h ⊢
  obtain ⟨k, t, rfl, hk, h3⟩ := tk_good r _ h
  have hv := val_lt1 a ha
  refine ⟨k, t, ?_, by omega, h3⟩
  rw [encKey_short k (by omega), hk, big_val' 1 a ha, List.append_assoc]
theorem ky_err (s : ByteArray) (e : Int) (h : e ≠ 0) : (kyR s e).2.2 ≠ 0 := by unfold kyR; exact tk_err _ _ _ (tk_err _ _ _ h)
theorem vl_app (v r : List UInt8) (h : v.length < 65536) : vlR (str (Oc.big 2 v.length ++ (v ++ r))) 0 = (str v, str r, 0) := by
  unfold vlR
  rw [show ((2 : Int)) = ((2 : Nat) : Int) from rfl, tk_app' 2 _ _ (Oc.big_length 2 _)]
  simp only [str_data]
  rw [val_big2 _ h, tk_app]
theorem vl_good (s : List UInt8) (h : (vlR (str s) 0).2.2 = 0) : ∃ v r, s = Oc.big 2 v.length ++ (v ++ r) ∧ v.length < 65536 ∧ vlR (str s) 0 = (str v, str r, 0) := by
  unfold vlR at h ⊢
  have h1 : (tk (str s) 0 2).2.2 = 0 := by
    cases Classical.em ((tk (str s) 0 2).2.2 = 0) with
    | inl h1 => exact h1
    | inr h1 => exact absurd h (tk_err _ _ _ h1)
  obtain ⟨a, r, rfl, ha, h2⟩ := tk_good s 2 h1
  rw [show ((2 : Int)) = ((2 : Nat) : Int) from rfl, h2] at h ⊢
  simp only [str_data] at h ⊢
  obtain ⟨k, t, rfl, hk, h3⟩ := tk_good r _ h
  have hv := val_lt2 a ha
  refine ⟨k, t, ?_, by omega, h3⟩
  rw [hk, big_val' 2 a ha]
theorem vl_err (s : ByteArray) (e : Int) (h : e ≠ 0) : (vlR s e).2.2 ≠ 0 := by unfold vlR; exact tk_err _ _ _ (tk_err _ _ _ h)
/-- The cells that can be read. -/
def canC (x : Cl) : Prop := x.key.length ≤ 255 ∧ x.chain < 4294967296 ∧ x.long < 4294967296 ∧ (x.chain ≠ 0 → x.val = []) ∧ (x.chain = 0 → x.long = 0 ∧ x.val.length < 65536)
def canK (x : Kd) : Prop := x.key.length ≤ 255 ∧ x.page < 4294967296
/-- One cell by the document's own steps: the cell, what is left, the error, whether it is none at all. -/
def rcR (leaf : Bool) (s : ByteArray) (e : Int) : Cl × ByteArray × Int × Bool :=
  let K := kyR s e
  if leaf then
    let O := tk K.2.1 K.2.2 1
    let n := Oc.val O.1.data.toList
    if n = 0 then
      let V := vlR O.2.1 O.2.2
      (⟨K.1.data.toList, V.1.data.toList, 0, 0⟩, V.2.1, V.2.2, false)
    else
      let A := tk O.2.1 O.2.2 4
      let B := tk A.2.1 A.2.2 4
      (⟨K.1.data.toList, [], Oc.val A.1.data.toList, Oc.val B.1.data.toList⟩, B.2.1, B.2.2, decide (1 < n ∨ n = 1 ∧ Oc.val A.1.data.toList = 0))
  else
    let P := tk K.2.1 K.2.2 4
    (⟨K.1.data.toList, [], Oc.val P.1.data.toList, 0⟩, P.2.1, P.2.2, false)
def canR (leaf : Bool) (x : Cl) : Prop := if leaf then canC x else x.key.length ≤ 255 ∧ x.chain < 4294967296 ∧ x.val = [] ∧ x.long = 0
theorem rc_err (leaf : Bool) (s : ByteArray) (e : Int) (h : e ≠ 0) : (rcR leaf s e).2.2.1 ≠ 0 := by
  unfold rcR
  have h1 := ky_err s e h
  cases leaf
  · exact tk_err _ _ _ h1
  · have h2 := tk_err (kyR s e).2.1 (kyR s e).2.2 1 h1
    simp only [if_true]
    split
    · exact vl_err _ _ h2
    · exact tk_err _ _ _ (tk_err _ _ _ h2)
theorem rc_kid {s : ByteArray} {e : Int} {K P : ByteArray × ByteArray × Int} (hK : kyR s e = K) (hP : tk K.2.1 K.2.2 4 = P) : rcR false s e = (⟨K.1.data.toList, [], Oc.val P.1.data.toList, 0⟩, P.2.1, P.2.2, false) := by
  subst hK; subst hP; rfl
theorem rc_zero {s : ByteArray} {e : Int} {K O V : ByteArray × ByteArray × Int} (hK : kyR s e = K) (hO : tk K.2.1 K.2.2 1 = O) (hn : Oc.val O.1.data.toList = 0) (hV : vlR O.2.1 O.2.2 = V) :
    rcR true s e = (⟨K.1.data.toList, V.1.data.toList, 0, 0⟩, V.2.1, V.2.2, false) := by
  subst hK; subst hO; subst hV
  unfold rcR
  simp only [if_true]
  rw [if_pos hn]
theorem rc_more {s : ByteArray} {e : Int} {K O A B : ByteArray × ByteArray × Int} (hK : kyR s e = K) (hO : tk K.2.1 K.2.2 1 = O) (hn : Oc.val O.1.data.toList ≠ 0) (hA : tk O.2.1 O.2.2 4 = A) (hB : tk A.2.1 A.2.2 4 = B) :
    rcR true s e = (⟨K.1.data.toList, [], Oc.val A.1.data.toList, Oc.val B.1.data.toList⟩, B.2.1, B.2.2, decide (1 < Oc.val O.1.data.toList ∨ Oc.val O.1.data.toList = 1 ∧ Oc.val A.1.data.toList = 0)) := by
  subst hK; subst hO; subst hA; subst hB
  unfold rcR
  simp only [if_true]
  rw [if_neg hn]
theorem rc_app (leaf : Bool) (x : Cl) (r : List UInt8) (h : canR leaf x) : rcR leaf (str ((Sl.shR leaf).enc x ++ r)) 0 = (x, str r, 0, false) := by
  obtain ⟨key, val, chain, long⟩ := x
  cases leaf
  · obtain ⟨h1, h2, h3, h4⟩ := h
    simp only at h1 h2 h3 h4
    subst h3; subst h4
    show rcR false (str (Sl.encK ⟨key, chain⟩ ++ r)) 0 = _
    unfold Sl.encK
    rw [List.append_assoc, rc_kid (ky_app key _ h1) (tk_app' 4 _ _ (Oc.big_length 4 chain))]
    simp only [str_data, val_big4 _ h2]
  · obtain ⟨h1, h2, h3, h4, h5⟩ : canC ⟨key, val, chain, long⟩ := h
    simp only at h1 h2 h3 h4 h5
    show rcR true (str (Sl.encC ⟨key, val, chain, long⟩ ++ r)) 0 = _
    unfold Sl.encC
    by_cases h0 : chain = 0
    · obtain ⟨h6, h7⟩ := h5 h0
      subst h0; subst h6
      rw [if_neg (by simp), Nat.min_eq_left (show val.length ≤ 65535 by omega), List.take_of_length_le (show val.length ≤ 65535 by omega)]
      rw [List.append_assoc, List.append_assoc, List.append_assoc, rc_zero (ky_app key _ h1) (tk_app' 1 _ _ (Oc.big_length 1 0)) (val_big1 0 (by omega)) (vl_app val r h7)]
      simp only [str_data]
    · have h6 := h4 h0
      subst h6
      rw [if_pos h0]
      rw [List.append_assoc, List.append_assoc, List.append_assoc, rc_more (ky_app key _ h1) (tk_app' 1 _ _ (Oc.big_length 1 1)) (by show Oc.val (Oc.big 1 1) ≠ 0; rw [val_big1 1 (by omega)]; omega) (tk_app' 4 _ _ (Oc.big_length 4 chain)) (tk_app' 4 _ _ (Oc.big_length 4 long))]
      simp only [str_data, val_big4 _ h2, val_big4 _ h3, val_big1 1 (show 1 < 256 by omega)]
      simp [h0]
theorem rc_good (leaf : Bool) (s : List UInt8) (h : (rcR leaf (str s) 0).2.2.1 = 0) (h2 : (rcR leaf (str s) 0).2.2.2 = false) :
    ∃ x r, s = (Sl.shR leaf).enc x ++ r ∧ canR leaf x ∧ rcR leaf (str s) 0 = (x, str r, 0, false) := by
  have hk : (kyR (str s) 0).2.2 = 0 := by
    cases Classical.em ((kyR (str s) 0).2.2 = 0) with
    | inl h1 => exact h1
    | inr h1 =>
      exfalso
      cases leaf
      · exact tk_err _ _ _ h1 h
      · have h3 := tk_err (kyR (str s) 0).2.1 (kyR (str s) 0).2.2 1 h1
        by_cases hn : Oc.val (tk (kyR (str s) 0).2.1 (kyR (str s) 0).2.2 1).1.data.toList = 0
        · rw [rc_zero rfl rfl hn rfl] at h; exact vl_err _ _ h3 h
        · rw [rc_more rfl rfl hn rfl rfl] at h; exact tk_err _ _ _ (tk_err _ _ _ h3) h
  obtain ⟨k, r, rfl, hkl, hK⟩ := ky_good s hk
  cases leaf
  · rw [rc_kid hK rfl] at h ⊢
    obtain ⟨a, t, rfl, ha, h3⟩ := tk_good r 4 h
    refine ⟨⟨k, [], Oc.val a, 0⟩, t, ?_, ⟨hkl, val_lt4 a ha, rfl, rfl⟩, ?_⟩
    · show _ = Sl.encK ⟨k, Oc.val a⟩ ++ t
      unfold Sl.encK
      rw [big_val' 4 a ha, List.append_assoc]
    · rw [show ((4 : Int)) = ((4 : Nat) : Int) from rfl, h3]; rfl
  · have ho : (tk (str r) 0 1).2.2 = 0 := by
      cases Classical.em ((tk (str r) 0 1).2.2 = 0) with
      | inl h1 => exact h1
      | inr h1 =>
        exfalso
        by_cases hn : Oc.val (tk (str r) 0 1).1.data.toList = 0
        · rw [rc_zero hK rfl hn rfl] at h; exact vl_err _ _ h1 h
        · rw [rc_more hK rfl hn rfl rfl] at h; exact tk_err _ _ _ (tk_err _ _ _ h1) h
    obtain ⟨o, t, rfl, hol, hO⟩ := tk_good r 1 ho
    have hov := val_lt1 o hol
    by_cases hn : Oc.val o = 0
    · rw [rc_zero hK hO hn rfl] at h ⊢
      obtain ⟨v, u, rfl, hv, hV⟩ := vl_good t h
      refine ⟨⟨k, v, 0, 0⟩, u, ?_, ⟨hkl, show 0 < 4294967296 by decide, show 0 < 4294967296 by decide, fun h => absurd rfl h, fun _ => ⟨rfl, hv⟩⟩, ?_⟩
      · show _ = Sl.encC ⟨k, v, 0, 0⟩ ++ u
        unfold Sl.encC
        rw [if_neg (by simp), Nat.min_eq_left (show v.length ≤ 65535 by omega), List.take_of_length_le (show v.length ≤ 65535 by omega)]
        rw [show o = Oc.big 1 0 by rw [← hn, big_val' 1 o hol]]
        simp only [List.append_assoc]
      · rw [hV]; rfl
    · rw [rc_more hK hO hn rfl rfl] at h h2 ⊢
      have hA0 : (tk (str t) 0 4).2.2 = 0 := by
        cases Classical.em ((tk (str t) 0 4).2.2 = 0) with
        | inl h1 => exact h1
        | inr h1 => exact absurd h (tk_err _ _ _ h1)
      obtain ⟨a, u, rfl, ha, hA⟩ := tk_good t 4 hA0
      rw [show ((4 : Int)) = ((4 : Nat) : Int) from rfl] at h h2 ⊢
      simp only [str_data] at h2
      rw [hA] at h h2 ⊢
      simp only [str_data] at h h2 ⊢
      obtain ⟨b, z, rfl, hb, hB⟩ := tk_good u 4 h
      rw [hB]
      have h4 : ¬ (1 < Oc.val o ∨ Oc.val o = 1 ∧ Oc.val a = 0) := of_decide_eq_false h2
      clear h2
      have hn1 : Oc.val o = 1 := by omega
      have hc : Oc.val a ≠ 0 := by omega
      refine ⟨⟨k, [], Oc.val a, Oc.val b⟩, z, ?_, ⟨hkl, val_lt4 a ha, val_lt4 b hb, fun _ => rfl, fun h => absurd h hc⟩, ?_⟩
      · show _ = Sl.encC ⟨k, [], Oc.val a, Oc.val b⟩ ++ z
        unfold Sl.encC
        rw [if_pos hc, big_val' 4 a ha, big_val' 4 b hb]
        rw [show o = Oc.big 1 1 from (by have h9 := big_val' 1 o hol; rw [hn1] at h9; exact h9.symm)]
        simp only [List.append_assoc]
      · simp [hn1, hc]; rfl
end Go.Proofs.YtemfbkelenaaeaaGreat
/- The contracts of a codec's get and Read, at a branch's cells. -/
namespace Go.Proofs.YtemfbkelenaaeaaGreat
open Go.RowKit
open Sl (Cl Kd)
theorem idleGetK (p : Addr) (w : World) :
    CallsD Tryz.prog 124 #[.pointer (some p)] .returning w fun e u' w' => e = .returned (.tuple #[]) ∧ u' = .returning ∧ w' = w := by
  refine callsD_of_wpS Tryz.func124 rfl fun c₀ cs hu => ?_
  apply wpS_seq
  apply wpS_region
  simp [wpOpsS, go_sem, recoverD, hu, Tryz.ntmps124, Exit.thenS]
  refine wpS_cond (t := false) (by simp [Act.eval, Array.replicate]) ?_
  simp only [Bool.false_eq_true, if_false]
  refine wpS_of_wp (wp_skip ?_)
  cases c₀
  simp_all [bodyPostS, results, Tryz.results124]
/-- An empty box of a branch's cell. -/
structure RzK (w : World) (g : Nat) : Prop where
  r0 : w.cell? ⟨g, 0, none⟩ = some (.string ⟨#[]⟩)
  r1 : w.cell? ⟨g, 1, none⟩ = some (.int .u32 0)
  p0 : w.frozen? ⟨g, 0, none⟩ = false
  p1 : w.frozen? ⟨g, 1, none⟩ = false
theorem RzK.lt {w : World} {g : Nat} (h : RzK w g) : g < w.heap.size := World.block_lt_of_cell? _ _ h.r0
theorem RzK.keep {w w' : World} {g : Nat} (h : RzK w g) (h0 : w'.heap[g]? = w.heap[g]?) : RzK w' g := by
  have c := fun o => World.cell?_of_block (w := w) (w' := w') (a := ⟨g, o, none⟩) h0
  have f := fun o => World.frozen?_of_block (w := w) (w' := w') (a := ⟨g, o, none⟩) h0
  exact ⟨(c 0).trans h.r0, (c 1).trans h.r1, (f 0).trans h.p0, (f 1).trans h.p1⟩
theorem RzK.mod {w w' : World} {g b : Nat} (h : RzK w g) (m : Mod b w w') (hb : g ≠ b) : RzK w' g := h.keep (m.block g h.lt hb)
theorem RzK.below {w w' : World} {g : Nat} (h : RzK w g) (m : Below w.heap.size w w') : RzK w' g := h.keep (m.block g h.lt)
theorem RzK.alloc {w : World} {g : Nat} (h : RzK w g) (o : Obj) : RzK (w.alloc o) g := h.below ((Below.refl _ _).alloc (Nat.le_refl _) _)
theorem RzK.new (w : World) (g : Nat) (hg : w.heap.size = g) : RzK (w.alloc (.cells #[.string ⟨#[]⟩, .int .u32 0] 78)) g := by
  subst hg
  constructor <;> simp
set_option maxHeartbeats 1000000 in
theorem getK_any (b : Nat) (s : ByteArray) (e : Int) (w : World) (h : Rd w b s e) :
    Calls Tryz.prog 113 #[cdcK, .pointer (some ⟨b, 0, none⟩)] w fun x w' => x = .returned (aggK (gkR s e).1) ∧ Rd w' b (gkR s e).2.1 (gkR s e).2.2 ∧ Mod b w w' := by
  have hmf : ∀ (fn : Fn) (first cap : Array Value) (w : World), (Instr.makeFunc fn first cap).run Tryz.prog w = .ok (.func fn first cap) w := fun _ _ _ _ => rfl
  have HR := Lib.hid h
  have HLT := Lib.hid h.lt
  have HNE : Hid (w.heap.size + 1 + 1 ≠ b) := fun he => by have := HLT.out; omega
  have HZ := Lib.hid (fun o1 o2 => RzK.new ((w.alloc o1).alloc o2) (w.heap.size + 1 + 1) (size2 w o1 o2))
  clear h
  have HG := Lib.hid (fun W (hW : Rd W b s e) => getKid_any b s e W hW)
  revert HG
  generalize gkR s e = X
  obtain ⟨x, s1, e1⟩ := X
  intro HG
  unfold cdcK
  unfold aggK at HG ⊢
  simp only at HG ⊢
  go_enter_defers Tryz.func113, Tryz.ntmps113
  go_wp2_with (go_at_call 71; (refine (HG.out _ (((HR.out.alloc _).alloc _).alloc _)).mono ?_; rintro e w1 ⟨rfl, hr1, hm1⟩; have HZ1 := Lib.hid ((HZ.out _ _).mod hm1 HNE.out); have r0 := HZ1.out.r0; have r1 := HZ1.out.r1; have p0 := HZ1.out.p0; have p1 := HZ1.out.p1))
  obtain ⟨s0_, s1_⟩ := stored2 (v0 := .string (str x.key)) (v1 := .int .u32 x.page) HZ1.out.r0 HZ1.out.r1
  have hbe := stored2_below (w := w1) (v0 := .string (str x.key)) (v1 := .int .u32 x.page) (show w.heap.size ≤ w.heap.size + 1 + 1 by omega)
  refine leaves_cons (f := 124) (args := #[.pointer (some ⟨w.heap.size + 1, 0, none⟩)]) (by simp) (by simp [go_sem]) ?_
  refine (idleGetK ⟨w.heap.size + 1, 0, none⟩ _).mono ?_
  rintro e u' w'' ⟨rfl, rfl, rfl⟩
  simp [Leaves, settle, results, Tryz.results113, go_sem, s0_, s1_]
  exact ⟨hr1.below' hbe HLT.out, (Mod.old (Mod.old (Mod.old hm1))).step' hbe⟩
/-- What Read answers of any bytes. -/
def rdK (s : ByteArray) : Kd × Int :=
  let G := gkR s 0
  if fin G.2.1 G.2.2 = 0 then (G.1, 0) else (zeroK, fin G.2.1 G.2.2)
/-- The codec's box at g, two empty boxes behind it. -/
structure R3K (w : World) (g : Nat) : Prop where
  c0 : w.cell? ⟨g, 0, none⟩ = some (.func (.func 68) #[] #[])
  c1 : w.cell? ⟨g, 1, none⟩ = some (.func (.func 71) #[] #[])
  z1 : RzK w (g + 1)
  z2 : RzK w (g + 1 + 1)
theorem R3K.keep {w w' : World} {g : Nat} (h : R3K w g) (hk : ∀ k, k ≤ g + 1 + 1 → w'.heap[k]? = w.heap[k]?) : R3K w' g :=
  ⟨(World.cell?_of_block (w := w) (a := ⟨g, 0, none⟩) (hk g (by omega))).trans h.c0, (World.cell?_of_block (w := w) (a := ⟨g, 1, none⟩) (hk g (by omega))).trans h.c1, h.z1.keep (hk _ (by omega)), h.z2.keep (hk _ (by omega))⟩
theorem R3K.below {w w' : World} {g : Nat} (h : R3K w g) (hb : Below w.heap.size w w') : R3K w' g := h.keep fun k hk => hb.block k (by have := h.z2.lt; omega)
theorem R3K.mod {w w' : World} {g b : Nat} (h : R3K w g) (m : Mod b w w') (hb : g + 1 + 1 < b) : R3K w' g := h.keep fun k hk => m.block k (by have := h.z2.lt; omega) (by omega)
theorem R3K.alloc {w : World} {g : Nat} (h : R3K w g) (o : Obj) : R3K (w.alloc o) g := h.below ((Below.refl _ _).alloc (Nat.le_refl _) _)
theorem R3K.new (w : World) : R3K (((w.alloc (.cells #[.func (.func 68) #[] #[], .func (.func 71) #[] #[]] 127)).alloc (.cells #[.string ⟨#[]⟩, .int .u32 0] 78)).alloc (.cells #[.string ⟨#[]⟩, .int .u32 0] 78)) w.heap.size := by
  refine ⟨?_, ?_, ?_, ?_⟩
  · rw [old_at 0 (by rw [size2]; omega), old_at 0 (by rw [size1]; omega), alloc_at 0 rfl]; rfl
  · rw [old_at 1 (by rw [size2]; omega), old_at 1 (by rw [size1]; omega), alloc_at 1 rfl]; rfl
  · exact (RzK.new _ _ (by rw [size1])).alloc _
  · exact RzK.new _ _ (by rw [size2])
theorem resRdK {w : World} {g : Nat} {v0 v1 : Value} {e : Int} {tmps : Array Value} (ht : tmps[4]? = some (.pointer (some ⟨g, 0, none⟩))) (h5 : tmps[5]? = some (.int .i64 e))
    (h0_ : w.cell? ⟨g, 0, none⟩ = some v0) (h1_ : w.cell? ⟨g, 1, none⟩ = some v1) :
    (results Tryz.f82 tmps).run Tryz.prog w = .ok (.tuple #[.agg #[v0, v1], .int .i64 e]) w := by
  simp [results, Tryz.results82, go_sem, ht, h5, h0_, h1_]
set_option maxHeartbeats 1000000 in
theorem rdK_any (s : ByteArray) (w : World) :
    Calls Tryz.prog 82 #[cdcK, .string s] w fun x w' => x = .returned (.tuple #[aggK (rdK s).1, .int .i64 (rdK s).2]) ∧ Below w.heap.size w w' := by
  have heq : ∀ w, (binOp .eql 71 (.func (.func 71) #[] #[]) .nilFunc).run Tryz.prog w = .ok (.bool false) w := fun w => by kernel_rfl
  have H0 := Lib.hid (R3K.new w)
  have HG := Lib.hid (fun b W (hW : Rd W b s 0) => getK_any b s 0 W hW)
  unfold rdK
  revert HG
  generalize gkR s 0 = X
  obtain ⟨x, s1, e1⟩ := X
  intro HG
  simp only at HG ⊢
  have HE := Lib.hid (fun b W (hW : Rd W b s1 e1) => end_rd b s1 e1 W hW)
  revert HE
  generalize fin s1 e1 = f
  intro HE
  unfold cdcK at HG ⊢
  unfold aggK at HG ⊢
  obtain ⟨b, hb⟩ : ∃ b, b = w.heap.size + 1 + 1 + 1 := ⟨_, rfl⟩
  have HBE := Lib.hid hb
  clear hb
  by_cases hf : f = 0
  · subst hf
    rw [if_pos rfl]
    go_enter Tryz.func82, Tryz.ntmps82
    go_wp2_with (first
      | (go_at_call 109; refine (over_at _ b _ (by rw [size3, HBE.out])).mono ?_; rintro e w1 ⟨rfl, hr1, hb1⟩; have HR1 := Lib.hid (H0.out.below hb1); have q0 := HR1.out.c0; have q1 := HR1.out.c1)
      | (go_at_call 113; refine (HG.out _ _ hr1).mono ?_; rintro e w2 ⟨rfl, hr2, hm2⟩; have HR2 := Lib.hid ((HR1.out.mod hm2 (by rw [HBE.out]; omega)).alloc (.cells #[.string (str x.key), .int .u32 x.page] 78)))
      | (go_at_call 112; refine (HE.out _ _ (hr2.alloc _)).mono ?_; rintro e w3 ⟨rfl, rfl⟩; have HZ1 := Lib.hid HR2.out.z1; have r0 := HZ1.out.r0; have r1 := HZ1.out.r1; have p0 := HZ1.out.p0; have p1 := HZ1.out.p1))
    obtain ⟨s0_, s1_⟩ := stored2 (v0 := .string (str x.key)) (v1 := .int .u32 x.page) HZ1.out.r0 HZ1.out.r1
    have hW1 := below_step (below3 w _ _ _) hb1
    have hW2 := hW1.trans (hm2.below (by rw [HBE.out]; omega) hW1.size)
    exact bodyPost_ret_by (resRdK rfl rfl s0_ s1_) rfl ⟨rfl, (hW2.alloc hW2.size _).trans (stored2_below (show w.heap.size ≤ w.heap.size + 1 by omega))⟩
  · have hf' : (f != 0) = true := by rw [bne_iff_ne]; exact hf
    rw [if_neg hf]
    go_enter Tryz.func82, Tryz.ntmps82
    go_wp2_with (first
      | (go_at_call 109; refine (over_at _ b _ (by rw [size3, HBE.out])).mono ?_; rintro e w1 ⟨rfl, hr1, hb1⟩; have HR1 := Lib.hid (H0.out.below hb1); have q0 := HR1.out.c0; have q1 := HR1.out.c1)
      | (go_at_call 113; refine (HG.out _ _ hr1).mono ?_; rintro e w2 ⟨rfl, hr2, hm2⟩; have HR2 := Lib.hid ((HR1.out.mod hm2 (by rw [HBE.out]; omega)).alloc (.cells #[.string (str x.key), .int .u32 x.page] 78)))
      | (go_at_call 112; refine (HE.out _ _ (hr2.alloc _)).mono ?_; rintro e w3 ⟨rfl, rfl⟩; have HZ1 := Lib.hid HR2.out.z1; have HZ2 := Lib.hid HR2.out.z2; have r0 := HZ1.out.r0; have r1 := HZ1.out.r1; have p0 := HZ1.out.p0; have p1 := HZ1.out.p1; have m0 := HZ2.out.r0; have m1 := HZ2.out.r1))
    obtain ⟨s0_, s1_⟩ := stored2 (v0 := .string ⟨#[]⟩) (v1 := .int .u32 0) HZ1.out.r0 HZ1.out.r1
    have hW1 := below_step (below3 w _ _ _) hb1
    have hW2 := hW1.trans (hm2.below (by rw [HBE.out]; omega) hW1.size)
    exact bodyPost_ret_by (resRdK rfl rfl s0_ s1_) rfl ⟨rfl, (hW2.alloc hW2.size _).trans (stored2_below (show w.heap.size ≤ w.heap.size + 1 by omega))⟩
end Go.Proofs.YtemfbkelenaaeaaGreat
