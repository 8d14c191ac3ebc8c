/- The contracts of a versioned codec's reading: of a queue, a message. -/
import Derived.Test.YtfoijhofpjaldaaRecD
set_option maxRecDepth 100000
set_option maxHeartbeats 4000000
set_option linter.unusedVariables false
namespace Go.Proofs.Ytfoijhofpjaldaa
open Go.RowKit
/-- What a versioned reader takes. -/
def verG {α : Type} (z : α) (get : ByteArray → Int → α × ByteArray × Int) (s : ByteArray) (e : Int) : α × ByteArray × Int :=
  let O := tk s e 1
  if Oc.val O.1.data.toList = 1 then
    let G := get O.2.1 O.2.2
    if G.2.2 = 0 then G else (z, G.2.1, G.2.2)
  else (z, O.2.1, if O.2.2 = 0 then 4 else O.2.2)
/-- What Read answers of any bytes. -/
def readG {α : Type} (z : α) (get : ByteArray → Int → α × ByteArray × Int) (s : ByteArray) : α × Int :=
  let G := verG z get s 0
  if fin G.2.1 G.2.2 = 0 then (G.1, 0) else (z, fin G.2.1 G.2.2)
def zQ : Qu := ⟨⟨#[]⟩, 0, 0, 0, ⟨#[]⟩⟩
def zM : Ms := ⟨⟨#[]⟩, 0, 0, 0, ⟨#[]⟩⟩
structure Bx5 (w : World) (g : Nat) (x0 x1 x2 x3 x4 : Value) : Prop where
  c0 : w.cell? ⟨g, 0, none⟩ = some x0
  c1 : w.cell? ⟨g, 1, none⟩ = some x1
  c2 : w.cell? ⟨g, 2, none⟩ = some x2
  c3 : w.cell? ⟨g, 3, none⟩ = some x3
  c4 : w.cell? ⟨g, 4, none⟩ = some x4
  f0 : w.frozen? ⟨g, 0, none⟩ = false
  f1 : w.frozen? ⟨g, 1, none⟩ = false
  f2 : w.frozen? ⟨g, 2, none⟩ = false
  f3 : w.frozen? ⟨g, 3, none⟩ = false
  f4 : w.frozen? ⟨g, 4, none⟩ = false
theorem Bx5.lt {w : World} {g : Nat} {x0 x1 x2 x3 x4 : Value} (h : Bx5 w g x0 x1 x2 x3 x4) : g < w.heap.size := World.block_lt_of_cell? _ _ h.c0
theorem Bx5.keep {w w' : World} {g : Nat} {x0 x1 x2 x3 x4 : Value} (h : Bx5 w g x0 x1 x2 x3 x4) (hk : w'.heap[g]? = w.heap[g]?) : Bx5 w' g x0 x1 x2 x3 x4 := by
  have c : ∀ o, w'.cell? ⟨g, o, none⟩ = w.cell? ⟨g, o, none⟩ := fun o => World.cell?_of_block (w := w) hk
  have f : ∀ o, w'.frozen? ⟨g, o, none⟩ = w.frozen? ⟨g, o, none⟩ := fun o => World.frozen?_of_block (w := w) hk
  exact ⟨(c _).trans h.c0, (c _).trans h.c1, (c _).trans h.c2, (c _).trans h.c3, (c _).trans h.c4, (f _).trans h.f0, (f _).trans h.f1, (f _).trans h.f2, (f _).trans h.f3, (f _).trans h.f4⟩
theorem Bx5.below {w w' : World} {g : Nat} {x0 x1 x2 x3 x4 : Value} (h : Bx5 w g x0 x1 x2 x3 x4) (hb : Below w.heap.size w w') : Bx5 w' g x0 x1 x2 x3 x4 := h.keep (hb.block g h.lt)
theorem Bx5.alloc {w : World} {g : Nat} {x0 x1 x2 x3 x4 : Value} (h : Bx5 w g x0 x1 x2 x3 x4) (o : Obj) : Bx5 (w.alloc o) g x0 x1 x2 x3 x4 := h.below ((Below.refl _ _).alloc (Nat.le_refl _) _)
theorem Bx5.mod {w w' : World} {g b : Nat} {x0 x1 x2 x3 x4 : Value} (h : Bx5 w g x0 x1 x2 x3 x4) (hm : Mod b w w') (hne : g ≠ b) : Bx5 w' g x0 x1 x2 x3 x4 := h.keep (hm.block g h.lt hne)
theorem Bx5.upd {w w' : World} {g b : Nat} {x0 x1 x2 x3 x4 : Value} (h : Bx5 w g x0 x1 x2 x3 x4) (hm : Upd b w w') (hne : g ≠ b) : Bx5 w' g x0 x1 x2 x3 x4 := h.keep (hm.block g hne)
theorem Bx5.new (w : World) (x0 x1 x2 x3 x4 : Value) (T : TypeId) : Bx5 (w.alloc (.cells #[x0, x1, x2, x3, x4] T)) w.heap.size x0 x1 x2 x3 x4 := by
  constructor <;> simp
theorem Bx5.new1 (w : World) (o : Obj) (x0 x1 x2 x3 x4 : Value) (T : TypeId) : Bx5 ((w.alloc o).alloc (.cells #[x0, x1, x2, x3, x4] T)) (w.heap.size + 1) x0 x1 x2 x3 x4 := by
  have := Bx5.new (w.alloc o) x0 x1 x2 x3 x4 T
  rwa [size1] at this
theorem Bx5.new2 (w : World) (o1 o2 : Obj) (x0 x1 x2 x3 x4 : Value) (T : TypeId) : Bx5 (((w.alloc o1).alloc o2).alloc (.cells #[x0, x1, x2, x3, x4] T)) (w.heap.size + 1 + 1) x0 x1 x2 x3 x4 := by
  have := Bx5.new ((w.alloc o1).alloc o2) x0 x1 x2 x3 x4 T
  rwa [size2] at this
structure Gv0 (w : World) (b g : Nat) (fv : Value) : Prop where
  cg : w.cell? ⟨g, 0, none⟩ = some fv
  gb : g ≠ b
theorem Gv0.mod {w w' : World} {b g : Nat} {fv : Value} (h : Gv0 w b g fv) (hm : Mod b w w') : Gv0 w' b g fv := ⟨(hm.cell (World.block_lt_of_cell? _ _ h.cg) h.gb).trans h.cg, h.gb⟩
theorem Gv0.upd {w w' : World} {b g : Nat} {fv : Value} (h : Gv0 w b g fv) (hm : Upd b w w') : Gv0 w' b g fv := ⟨(World.cell?_of_block (w := w) (hm.block g h.gb)).trans h.cg, h.gb⟩
theorem Gv0.below {w w' : World} {b g : Nat} {fv : Value} (h : Gv0 w b g fv) (hb : Below w.heap.size w w') : Gv0 w' b g fv := ⟨(hb.cell (World.block_lt_of_cell? _ _ h.cg)).trans h.cg, h.gb⟩
theorem Gv0.alloc {w : World} {b g : Nat} {fv : Value} (h : Gv0 w b g fv) (o : Obj) : Gv0 (w.alloc o) b g fv := h.below ((Below.refl _ _).alloc (Nat.le_refl _) _)
/-- What a queue's reading function holds: itself, and the name. -/
def GvQ (w : World) (b g n : Nat) (nm : ByteArray) : Prop := Gv0 w b g (.func (.func 34) #[] #[.pointer (some ⟨n, 0, none⟩)]) ∧ Gv0 w b n (.string nm)
def GvM (w : World) (b g n c : Nat) (nm : ByteArray) (i : Nat) : Prop := Gv0 w b g (.func (.func 42) #[] #[.pointer (some ⟨n, 0, none⟩), .pointer (some ⟨c, 0, none⟩)]) ∧ Gv0 w b n (.string nm) ∧ Gv0 w b c (.int .u64 i)
theorem GvQ.mod {w w' : World} {b g n : Nat} {nm : ByteArray} (h : GvQ w b g n nm) (hm : Mod b w w') : GvQ w' b g n nm := ⟨h.1.mod hm, h.2.mod hm⟩
theorem GvQ.upd {w w' : World} {b g n : Nat} {nm : ByteArray} (h : GvQ w b g n nm) (hm : Upd b w w') : GvQ w' b g n nm := ⟨h.1.upd hm, h.2.upd hm⟩
theorem GvQ.below {w w' : World} {b g n : Nat} {nm : ByteArray} (h : GvQ w b g n nm) (hb : Below w.heap.size w w') : GvQ w' b g n nm := ⟨h.1.below hb, h.2.below hb⟩
theorem GvQ.alloc {w : World} {b g n : Nat} {nm : ByteArray} (h : GvQ w b g n nm) (o : Obj) : GvQ (w.alloc o) b g n nm := ⟨h.1.alloc o, h.2.alloc o⟩
theorem GvM.mod {w w' : World} {b g n c : Nat} {nm : ByteArray} {i : Nat} (h : GvM w b g n c nm i) (hm : Mod b w w') : GvM w' b g n c nm i := ⟨h.1.mod hm, h.2.1.mod hm, h.2.2.mod hm⟩
theorem GvM.upd {w w' : World} {b g n c : Nat} {nm : ByteArray} {i : Nat} (h : GvM w b g n c nm i) (hm : Upd b w w') : GvM w' b g n c nm i := ⟨h.1.upd hm, h.2.1.upd hm, h.2.2.upd hm⟩
theorem GvM.below {w w' : World} {b g n c : Nat} {nm : ByteArray} {i : Nat} (h : GvM w b g n c nm i) (hb : Below w.heap.size w w') : GvM w' b g n c nm i := ⟨h.1.below hb, h.2.1.below hb, h.2.2.below hb⟩
theorem GvM.alloc {w : World} {b g n c : Nat} {nm : ByteArray} {i : Nat} (h : GvM w b g n c nm i) (o : Obj) : GvM (w.alloc o) b g n c nm i := ⟨h.1.alloc o, h.2.1.alloc o, h.2.2.alloc o⟩
theorem getFnQ_gv {b g n : Nat} {nm s : ByteArray} {e : Int} {w : World} (h : Rd w b s e) (hG : GvQ w b g n nm) :
    Calls Try.prog 34 #[.pointer (some ⟨b, 0, none⟩), .pointer (some ⟨n, 0, none⟩)] w fun x w' => x = .returned (aggQ (getQ nm s e).1) ∧ Rd w' b (getQ nm s e).2.1 (getQ nm s e).2.2 ∧ Mod b w w' := getFnQ_any b n nm s e w h hG.2.cg hG.2.gb
theorem getFnM_gv {b g n c : Nat} {nm s : ByteArray} {i : Nat} {e : Int} {w : World} (h : Rd w b s e) (hG : GvM w b g n c nm i) :
    Calls Try.prog 42 #[.pointer (some ⟨b, 0, none⟩), .pointer (some ⟨n, 0, none⟩), .pointer (some ⟨c, 0, none⟩)] w fun x w' => x = .returned (aggM (getM nm i s e).1) ∧ Rd w' b (getM nm i s e).2.1 (getM nm i s e).2.2 ∧ Mod b w w' := getFnM_any b n c nm s i e w h hG.2.1.cg hG.2.1.gb hG.2.2.cg hG.2.2.gb
theorem rvQ {w : World} {g : Nat} {x0 x1 x2 x3 x4 : Value} {tmps : Array Value} (ht : tmps[3]? = some (.pointer (some ⟨g, 0, none⟩)))
    (h0 : w.cell? ⟨g, 0, none⟩ = some x0) (h1 : w.cell? ⟨g, 1, none⟩ = some x1) (h2 : w.cell? ⟨g, 2, none⟩ = some x2) (h3 : w.cell? ⟨g, 3, none⟩ = some x3) (h4 : w.cell? ⟨g, 4, none⟩ = some x4) :
    (results Try.f74 tmps).run Try.prog w = .ok (.agg #[x0, x1, x2, x3, x4]) w := by
  simp [results, Try.results74, go_sem, ht, h0, h1, h2, h3, h4]
set_option maxHeartbeats 4000000 in
theorem vgetQ_any (b g n : Nat) (nm : ByteArray) (s : ByteArray) (e : Int) (w : World) (h : Rd w b s e) (hG : GvQ w b g n nm) :
    Calls Try.prog 74 #[.pointer (some ⟨b, 0, none⟩), .pointer (some ⟨g, 0, none⟩)] w fun x w' => x = .returned (aggQ (verG zQ (getQ nm) s e).1) ∧ Rd w' b (verG zQ (getQ nm) s e).2.1 (verG zQ (getQ nm) s e).2.2 ∧ Mod b w w' := by
  have HLT := Lib.hid h.lt
  have HNE : Hid (w.heap.size ≠ b) := fun he => by have := HLT.out; omega
  have HNE1 : Hid (w.heap.size + 1 ≠ b) := fun he => by have := HLT.out; omega
  have HR := Lib.hid ((h.alloc (.cells #[.string ⟨#[]⟩, .int .u32 0, .int .u64 0, .int .u32 0, .string ⟨#[]⟩] 25)).alloc (.cells #[.string ⟨#[]⟩, .int .u32 0, .int .u64 0, .int .u32 0, .string ⟨#[]⟩] 25))
  have HG := Lib.hid ((hG.alloc (.cells #[.string ⟨#[]⟩, .int .u32 0, .int .u64 0, .int .u32 0, .string ⟨#[]⟩] 25)).alloc (.cells #[.string ⟨#[]⟩, .int .u32 0, .int .u64 0, .int .u32 0, .string ⟨#[]⟩] 25))
  have HB := Lib.hid ((Bx5.new w (.string ⟨#[]⟩) (.int .u32 0) (.int .u64 0) (.int .u32 0) (.string ⟨#[]⟩) 25).alloc (.cells #[.string ⟨#[]⟩, .int .u32 0, .int .u64 0, .int .u32 0, .string ⟨#[]⟩] 25))
  have HB1 := Lib.hid (Bx5.new1 w (.cells #[.string ⟨#[]⟩, .int .u32 0, .int .u64 0, .int .u32 0, .string ⟨#[]⟩] 25) (.string ⟨#[]⟩) (.int .u32 0) (.int .u64 0) (.int .u32 0) (.string ⟨#[]⟩) 25)
  have HM0 := Lib.hid ((Mod.refl b w).alloc (.cells #[.string ⟨#[]⟩, .int .u32 0, .int .u64 0, .int .u32 0, .string ⟨#[]⟩] 25) |>.alloc (.cells #[.string ⟨#[]⟩, .int .u32 0, .int .u64 0, .int .u32 0, .string ⟨#[]⟩] 25))
  clear h hG
  unfold verG
  simp only
  have HO := Lib.hid (fun W (hW : Rd W b s e) => one_rd b s e W hW)
  revert HO
  generalize tk s e 1 = O
  intro HO
  by_cases hv : Oc.val O.1.data.toList = 1
  · rw [if_pos hv]
    rw [hv] at HO
    clear hv
    have HF := Lib.hid (fun W (hW : Rd W b O.2.1 O.2.2) (hV : GvQ W b g n nm) => getFnQ_gv hW hV)
    revert HF
    generalize getQ nm O.2.1 O.2.2 = G
    intro HF
    have HE := Lib.hid (fun W (hW : Rd W b G.2.1 G.2.2) => err_any b G.2.1 G.2.2 W hW)
    obtain ⟨⟨q0, q1, q2, q3, q4⟩, r, f⟩ := G
    unfold aggQ at HF ⊢
    simp only at HF HE ⊢
    by_cases hf : f = 0
    · subst hf
      rw [if_pos rfl]
      go_enter Try.func74, Try.ntmps74
      go_wp2_with (first
        | (go_at_call 65; refine (HO.out _ HR.out).mono ?_; rintro x w1 ⟨rfl, hr1, hu1⟩; have HG1 := Lib.hid (HG.out.upd hu1); have qf := HG1.out.1.cg; have HB1' := Lib.hid (HB.out.upd hu1 HNE.out); have HM1 := Lib.hid (HM0.out.upd hu1))
        | (go_at_call 34; refine (HF.out _ hr1 HG1.out).mono ?_; rintro x w2 ⟨rfl, hr2, hm2⟩; have HR2 := Lib.hid (hr2.alloc (.cells #[.string q0, .int .u32 q1, .int .u64 q2, .int .u32 q3, .string q4] 25)); have HB2 := Lib.hid ((HB1'.out.mod hm2 HNE.out).alloc (.cells #[.string q0, .int .u32 q1, .int .u64 q2, .int .u32 q3, .string q4] 25)); have HM2 := Lib.hid ((HM1.out.trans hm2).alloc (.cells #[.string q0, .int .u32 q1, .int .u64 q2, .int .u32 q3, .string q4] 25)); clear qf)
        | (go_at_call 67; refine (HE.out _ HR2.out).mono ?_; rintro x w3 ⟨rfl, rfl⟩; obtain ⟨k0, k1, k2, k3, k4, f0, f1, f2, f3, f4⟩ := HB2.out))
      obtain ⟨s0, s1, s2, s3, s4⟩ := stored5 (v0 := .string q0) (v1 := .int .u32 q1) (v2 := .int .u64 q2) (v3 := .int .u32 q3) (v4 := .string q4) k0 k1 k2 k3 k4
      have hbe := fun W v0 v1 v2 v3 v4 => stored5_below (w := W) (v0 := v0) (v1 := v1) (v2 := v2) (v3 := v3) (v4 := v4) (Nat.le_refl w.heap.size)
      exact bodyPost_ret_by (rvQ rfl s0 s1 s2 s3 s4) rfl ⟨rfl, HR2.out.below' (hbe _ _ _ _ _ _) HLT.out, HM2.out.step' (hbe _ _ _ _ _ _)⟩
    · have hf' : (f != 0) = true := by rw [bne_iff_ne]; exact hf
      rw [if_neg hf]
      go_enter Try.func74, Try.ntmps74
      go_wp2_with (first
        | (go_at_call 65; refine (HO.out _ HR.out).mono ?_; rintro x w1 ⟨rfl, hr1, hu1⟩; have HG1 := Lib.hid (HG.out.upd hu1); have qf := HG1.out.1.cg; have HB1' := Lib.hid (HB.out.upd hu1 HNE.out); have HC1' := Lib.hid (HB1.out.upd hu1 HNE1.out); have HM1 := Lib.hid (HM0.out.upd hu1))
        | (go_at_call 34; refine (HF.out _ hr1 HG1.out).mono ?_; rintro x w2 ⟨rfl, hr2, hm2⟩; have HR2 := Lib.hid (hr2.alloc (.cells #[.string q0, .int .u32 q1, .int .u64 q2, .int .u32 q3, .string q4] 25)); have HB2 := Lib.hid ((HB1'.out.mod hm2 HNE.out).alloc (.cells #[.string q0, .int .u32 q1, .int .u64 q2, .int .u32 q3, .string q4] 25)); have HC2 := Lib.hid ((HC1'.out.mod hm2 HNE1.out).alloc (.cells #[.string q0, .int .u32 q1, .int .u64 q2, .int .u32 q3, .string q4] 25)); have HM2 := Lib.hid ((HM1.out.trans hm2).alloc (.cells #[.string q0, .int .u32 q1, .int .u64 q2, .int .u32 q3, .string q4] 25)); clear qf)
        | (go_at_call 67; refine (HE.out _ HR2.out).mono ?_; rintro x w3 ⟨rfl, rfl⟩; obtain ⟨k0, k1, k2, k3, k4, f0, f1, f2, f3, f4⟩ := HB2.out; obtain ⟨z0, z1, z2, z3, z4, _, _, _, _, _⟩ := HC2.out))
      obtain ⟨s0, s1, s2, s3, s4⟩ := stored5 (v0 := .string ⟨#[]⟩) (v1 := .int .u32 0) (v2 := .int .u64 0) (v3 := .int .u32 0) (v4 := .string ⟨#[]⟩) k0 k1 k2 k3 k4
      have hbe := fun W v0 v1 v2 v3 v4 => stored5_below (w := W) (v0 := v0) (v1 := v1) (v2 := v2) (v3 := v3) (v4 := v4) (Nat.le_refl w.heap.size)
      exact bodyPost_ret_by (rvQ rfl s0 s1 s2 s3 s4) rfl ⟨rfl, HR2.out.below' (hbe _ _ _ _ _ _) HLT.out, HM2.out.step' (hbe _ _ _ _ _ _)⟩
  · rw [if_neg hv]
    have HF := Lib.hid (fun W (hW : Rd W b O.2.1 O.2.2) => fail_any b O.2.1 O.2.2 4 W hW)
    revert HO hv HF
    generalize Oc.val O.1.data.toList = v
    generalize hx : (if O.2.2 = 0 then (4 : Int) else O.2.2) = x4
    intro HO hv HF
    clear hx
    have hd : ((v : Int) != 1) = true := by rw [bne_iff_ne]; omega
    unfold aggQ
    go_enter Try.func74, Try.ntmps74
    go_wp2_with (first
      | (go_at_call 65; refine (HO.out _ HR.out).mono ?_; rintro x w1 ⟨rfl, hr1, hu1⟩)
      | (go_at_call 66; refine (HF.out _ hr1).mono ?_; rintro x w2 ⟨rfl, hr2, hu2⟩; obtain ⟨k0, k1, k2, k3, k4, f0, f1, f2, f3, f4⟩ := (HB.out.upd hu1 HNE.out).upd hu2 HNE.out; obtain ⟨z0, z1, z2, z3, z4, _, _, _, _, _⟩ := (HB1.out.upd hu1 HNE1.out).upd hu2 HNE1.out))
    obtain ⟨s0, s1, s2, s3, s4⟩ := stored5 (v0 := .string ⟨#[]⟩) (v1 := .int .u32 0) (v2 := .int .u64 0) (v3 := .int .u32 0) (v4 := .string ⟨#[]⟩) k0 k1 k2 k3 k4
    have hbe := fun W v0 v1 v2 v3 v4 => stored5_below (w := W) (v0 := v0) (v1 := v1) (v2 := v2) (v3 := v3) (v4 := v4) (Nat.le_refl w.heap.size)
    exact bodyPost_ret_by (rvQ rfl s0 s1 s2 s3 s4) rfl ⟨rfl, hr2.below' (hbe _ _ _ _ _ _) HLT.out, ((HM0.out.upd hu1).upd hu2).step' (hbe _ _ _ _ _ _)⟩
theorem rvM {w : World} {g : Nat} {x0 x1 x2 x3 x4 : Value} {tmps : Array Value} (ht : tmps[3]? = some (.pointer (some ⟨g, 0, none⟩)))
    (h0 : w.cell? ⟨g, 0, none⟩ = some x0) (h1 : w.cell? ⟨g, 1, none⟩ = some x1) (h2 : w.cell? ⟨g, 2, none⟩ = some x2) (h3 : w.cell? ⟨g, 3, none⟩ = some x3) (h4 : w.cell? ⟨g, 4, none⟩ = some x4) :
    (results Try.f76 tmps).run Try.prog w = .ok (.agg #[x0, x1, x2, x3, x4]) w := by
  simp [results, Try.results76, go_sem, ht, h0, h1, h2, h3, h4]
set_option maxHeartbeats 4000000 in
theorem vgetM_any (b g n c : Nat) (nm : ByteArray) (i : Nat) (s : ByteArray) (e : Int) (w : World) (h : Rd w b s e) (hG : GvM w b g n c nm i) :
    Calls Try.prog 76 #[.pointer (some ⟨b, 0, none⟩), .pointer (some ⟨g, 0, none⟩)] w fun x w' => x = .returned (aggM (verG zM (getM nm i) s e).1) ∧ Rd w' b (verG zM (getM nm i) s e).2.1 (verG zM (getM nm i) s e).2.2 ∧ Mod b w w' := by
  have HLT := Lib.hid h.lt
  have HNE : Hid (w.heap.size ≠ b) := fun he => by have := HLT.out; omega
  have HNE1 : Hid (w.heap.size + 1 ≠ b) := fun he => by have := HLT.out; omega
  have HR := Lib.hid ((h.alloc (.cells #[.string ⟨#[]⟩, .int .u64 0, .int .u32 0, .int .u64 0, .string ⟨#[]⟩] 27)).alloc (.cells #[.string ⟨#[]⟩, .int .u64 0, .int .u32 0, .int .u64 0, .string ⟨#[]⟩] 27))
  have HG := Lib.hid ((hG.alloc (.cells #[.string ⟨#[]⟩, .int .u64 0, .int .u32 0, .int .u64 0, .string ⟨#[]⟩] 27)).alloc (.cells #[.string ⟨#[]⟩, .int .u64 0, .int .u32 0, .int .u64 0, .string ⟨#[]⟩] 27))
  have HB := Lib.hid ((Bx5.new w (.string ⟨#[]⟩) (.int .u64 0) (.int .u32 0) (.int .u64 0) (.string ⟨#[]⟩) 27).alloc (.cells #[.string ⟨#[]⟩, .int .u64 0, .int .u32 0, .int .u64 0, .string ⟨#[]⟩] 27))
  have HB1 := Lib.hid (Bx5.new1 w (.cells #[.string ⟨#[]⟩, .int .u64 0, .int .u32 0, .int .u64 0, .string ⟨#[]⟩] 27) (.string ⟨#[]⟩) (.int .u64 0) (.int .u32 0) (.int .u64 0) (.string ⟨#[]⟩) 27)
  have HM0 := Lib.hid ((Mod.refl b w).alloc (.cells #[.string ⟨#[]⟩, .int .u64 0, .int .u32 0, .int .u64 0, .string ⟨#[]⟩] 27) |>.alloc (.cells #[.string ⟨#[]⟩, .int .u64 0, .int .u32 0, .int .u64 0, .string ⟨#[]⟩] 27))
  clear h hG
  unfold verG
  simp only
  have HO := Lib.hid (fun W (hW : Rd W b s e) => one_rd b s e W hW)
  revert HO
  generalize tk s e 1 = O
  intro HO
  by_cases hv : Oc.val O.1.data.toList = 1
  · rw [if_pos hv]
    rw [hv] at HO
    clear hv
    have HF := Lib.hid (fun W (hW : Rd W b O.2.1 O.2.2) (hV : GvM W b g n c nm i) => getFnM_gv hW hV)
    revert HF
    generalize getM nm i O.2.1 O.2.2 = G
    intro HF
    have HE := Lib.hid (fun W (hW : Rd W b G.2.1 G.2.2) => err_any b G.2.1 G.2.2 W hW)
    obtain ⟨⟨q0, q1, q2, q3, q4⟩, r, f⟩ := G
    unfold aggM at HF ⊢
    simp only at HF HE ⊢
    by_cases hf : f = 0
    · subst hf
      rw [if_pos rfl]
      go_enter Try.func76, Try.ntmps76
      go_wp2_with (first
        | (go_at_call 65; refine (HO.out _ HR.out).mono ?_; rintro x w1 ⟨rfl, hr1, hu1⟩; have HG1 := Lib.hid (HG.out.upd hu1); have qf := HG1.out.1.cg; have HB1' := Lib.hid (HB.out.upd hu1 HNE.out); have HM1 := Lib.hid (HM0.out.upd hu1))
        | (go_at_call 42; refine (HF.out _ hr1 HG1.out).mono ?_; rintro x w2 ⟨rfl, hr2, hm2⟩; have HR2 := Lib.hid (hr2.alloc (.cells #[.string q0, .int .u64 q1, .int .u32 q2, .int .u64 q3, .string q4] 27)); have HB2 := Lib.hid ((HB1'.out.mod hm2 HNE.out).alloc (.cells #[.string q0, .int .u64 q1, .int .u32 q2, .int .u64 q3, .string q4] 27)); have HM2 := Lib.hid ((HM1.out.trans hm2).alloc (.cells #[.string q0, .int .u64 q1, .int .u32 q2, .int .u64 q3, .string q4] 27)); clear qf)
        | (go_at_call 67; refine (HE.out _ HR2.out).mono ?_; rintro x w3 ⟨rfl, rfl⟩; obtain ⟨k0, k1, k2, k3, k4, f0, f1, f2, f3, f4⟩ := HB2.out))
      obtain ⟨s0, s1, s2, s3, s4⟩ := stored5 (v0 := .string q0) (v1 := .int .u64 q1) (v2 := .int .u32 q2) (v3 := .int .u64 q3) (v4 := .string q4) k0 k1 k2 k3 k4
      have hbe := fun W v0 v1 v2 v3 v4 => stored5_below (w := W) (v0 := v0) (v1 := v1) (v2 := v2) (v3 := v3) (v4 := v4) (Nat.le_refl w.heap.size)
      exact bodyPost_ret_by (rvM rfl s0 s1 s2 s3 s4) rfl ⟨rfl, HR2.out.below' (hbe _ _ _ _ _ _) HLT.out, HM2.out.step' (hbe _ _ _ _ _ _)⟩
    · have hf' : (f != 0) = true := by rw [bne_iff_ne]; exact hf
      rw [if_neg hf]
      go_enter Try.func76, Try.ntmps76
      go_wp2_with (first
        | (go_at_call 65; refine (HO.out _ HR.out).mono ?_; rintro x w1 ⟨rfl, hr1, hu1⟩; have HG1 := Lib.hid (HG.out.upd hu1); have qf := HG1.out.1.cg; have HB1' := Lib.hid (HB.out.upd hu1 HNE.out); have HC1' := Lib.hid (HB1.out.upd hu1 HNE1.out); have HM1 := Lib.hid (HM0.out.upd hu1))
        | (go_at_call 42; refine (HF.out _ hr1 HG1.out).mono ?_; rintro x w2 ⟨rfl, hr2, hm2⟩; have HR2 := Lib.hid (hr2.alloc (.cells #[.string q0, .int .u64 q1, .int .u32 q2, .int .u64 q3, .string q4] 27)); have HB2 := Lib.hid ((HB1'.out.mod hm2 HNE.out).alloc (.cells #[.string q0, .int .u64 q1, .int .u32 q2, .int .u64 q3, .string q4] 27)); have HC2 := Lib.hid ((HC1'.out.mod hm2 HNE1.out).alloc (.cells #[.string q0, .int .u64 q1, .int .u32 q2, .int .u64 q3, .string q4] 27)); have HM2 := Lib.hid ((HM1.out.trans hm2).alloc (.cells #[.string q0, .int .u64 q1, .int .u32 q2, .int .u64 q3, .string q4] 27)); clear qf)
        | (go_at_call 67; refine (HE.out _ HR2.out).mono ?_; rintro x w3 ⟨rfl, rfl⟩; obtain ⟨k0, k1, k2, k3, k4, f0, f1, f2, f3, f4⟩ := HB2.out; obtain ⟨z0, z1, z2, z3, z4, _, _, _, _, _⟩ := HC2.out))
      obtain ⟨s0, s1, s2, s3, s4⟩ := stored5 (v0 := .string ⟨#[]⟩) (v1 := .int .u64 0) (v2 := .int .u32 0) (v3 := .int .u64 0) (v4 := .string ⟨#[]⟩) k0 k1 k2 k3 k4
      have hbe := fun W v0 v1 v2 v3 v4 => stored5_below (w := W) (v0 := v0) (v1 := v1) (v2 := v2) (v3 := v3) (v4 := v4) (Nat.le_refl w.heap.size)
      exact bodyPost_ret_by (rvM rfl s0 s1 s2 s3 s4) rfl ⟨rfl, HR2.out.below' (hbe _ _ _ _ _ _) HLT.out, HM2.out.step' (hbe _ _ _ _ _ _)⟩
  · rw [if_neg hv]
    have HF := Lib.hid (fun W (hW : Rd W b O.2.1 O.2.2) => fail_any b O.2.1 O.2.2 4 W hW)
    revert HO hv HF
    generalize Oc.val O.1.data.toList = v
    generalize hx : (if O.2.2 = 0 then (4 : Int) else O.2.2) = x4
    intro HO hv HF
    clear hx
    have hd : ((v : Int) != 1) = true := by rw [bne_iff_ne]; omega
    unfold aggM
    go_enter Try.func76, Try.ntmps76
    go_wp2_with (first
      | (go_at_call 65; refine (HO.out _ HR.out).mono ?_; rintro x w1 ⟨rfl, hr1, hu1⟩)
      | (go_at_call 66; refine (HF.out _ hr1).mono ?_; rintro x w2 ⟨rfl, hr2, hu2⟩; obtain ⟨k0, k1, k2, k3, k4, f0, f1, f2, f3, f4⟩ := (HB.out.upd hu1 HNE.out).upd hu2 HNE.out; obtain ⟨z0, z1, z2, z3, z4, _, _, _, _, _⟩ := (HB1.out.upd hu1 HNE1.out).upd hu2 HNE1.out))
    obtain ⟨s0, s1, s2, s3, s4⟩ := stored5 (v0 := .string ⟨#[]⟩) (v1 := .int .u64 0) (v2 := .int .u32 0) (v3 := .int .u64 0) (v4 := .string ⟨#[]⟩) k0 k1 k2 k3 k4
    have hbe := fun W v0 v1 v2 v3 v4 => stored5_below (w := W) (v0 := v0) (v1 := v1) (v2 := v2) (v3 := v3) (v4 := v4) (Nat.le_refl w.heap.size)
    exact bodyPost_ret_by (rvM rfl s0 s1 s2 s3 s4) rfl ⟨rfl, hr2.below' (hbe _ _ _ _ _ _) HLT.out, ((HM0.out.upd hu1).upd hu2).step' (hbe _ _ _ _ _ _)⟩
end Go.Proofs.Ytfoijhofpjaldaa
