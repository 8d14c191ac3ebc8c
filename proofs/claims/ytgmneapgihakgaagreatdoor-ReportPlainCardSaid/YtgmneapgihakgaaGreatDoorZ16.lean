/- Texts of one seat, merged. -/
import Derived.Test.YtgmneapgihakgaaGreatDoorZ15
set_option maxRecDepth 100000
set_option maxHeartbeats 4000000
set_option linter.unusedVariables false
/- The contracts of a versioned codec's reading: of a queue, a message. -/
namespace Go.Proofs.YtgmneapgihakgaaGreatDoor
open Go.RowKit
/-- What a versioned reader takes. -/
def verG {α : Type} (z : α) (get : ByteArray → Int → α × ByteArray × Int) (s : ByteArray) (e : Int) : α × ByteArray × Int :=
  let O := tk s e 1
  if Oc.val O.1.data.toList = 1 then
    let G := get O.2.1 O.2.2
    if G.2.2 = 0 then G else (z, G.2.1, G.2.2)
  else (z, O.2.1, if O.2.2 = 0 then 4 else O.2.2)
/-- What Read answers of any bytes. -/
def readG {α : Type} (z : α) (get : ByteArray → Int → α × ByteArray × Int) (s : ByteArray) : α × Int :=
  let G := verG z get s 0
  if fin G.2.1 G.2.2 = 0 then (G.1, 0) else (z, fin G.2.1 G.2.2)
def zQ : Qu := ⟨⟨#[]⟩, 0, 0, 0, ⟨#[]⟩⟩
def zM : Ms := ⟨⟨#[]⟩, 0, 0, 0, ⟨#[]⟩⟩
structure Bx5 (w : World) (g : Nat) (x0 x1 x2 x3 x4 : Value) : Prop where
  c0 : w.cell? ⟨g, 0, none⟩ = some x0
  c1 : w.cell? ⟨g, 1, none⟩ = some x1
  c2 : w.cell? ⟨g, 2, none⟩ = some x2
  c3 : w.cell? ⟨g, 3, none⟩ = some x3
  c4 : w.cell? ⟨g, 4, none⟩ = some x4
  f0 : w.frozen? ⟨g, 0, none⟩ = false
  f1 : w.frozen? ⟨g, 1, none⟩ = false
  f2 : w.frozen? ⟨g, 2, none⟩ = false
  f3 : w.frozen? ⟨g, 3, none⟩ = false
  f4 : w.frozen? ⟨g, 4, none⟩ = false
theorem Bx5.lt {w : World} {g : Nat} {x0 x1 x2 x3 x4 : Value} (h : Bx5 w g x0 x1 x2 x3 x4) : g < w.heap.size := World.block_lt_of_cell? _ _ h.c0
theorem Bx5.keep {w w' : World} {g : Nat} {x0 x1 x2 x3 x4 : Value} (h : Bx5 w g x0 x1 x2 x3 x4) (hk : w'.heap[g]? = w.heap[g]?) : Bx5 w' g x0 x1 x2 x3 x4 := by
  have c : ∀ o, w'.cell? ⟨g, o, none⟩ = w.cell? ⟨g, o, none⟩ := fun o => World.cell?_of_block (w := w) hk
  have f : ∀ o, w'.frozen? ⟨g, o, none⟩ = w.frozen? ⟨g, o, none⟩ := fun o => World.frozen?_of_block (w := w) hk
  exact ⟨(c _).trans h.c0, (c _).trans h.c1, (c _).trans h.c2, (c _).trans h.c3, (c _).trans h.c4, (f _).trans h.f0, (f _).trans h.f1, (f _).trans h.f2, (f _).trans h.f3, (f _).trans h.f4⟩
theorem Bx5.below {w w' : World} {g : Nat} {x0 x1 x2 x3 x4 : Value} (h : Bx5 w g x0 x1 x2 x3 x4) (hb : Below w.heap.size w w') : Bx5 w' g x0 x1 x2 x3 x4 := h.keep (hb.block g h.lt)
theorem Bx5.alloc {w : World} {g : Nat} {x0 x1 x2 x3 x4 : Value} (h : Bx5 w g x0 x1 x2 x3 x4) (o : Obj) : Bx5 (w.alloc o) g x0 x1 x2 x3 x4 := h.below ((Below.refl _ _).alloc (Nat.le_refl _) _)
theorem Bx5.mod {w w' : World} {g b : Nat} {x0 x1 x2 x3 x4 : Value} (h : Bx5 w g x0 x1 x2 x3 x4) (hm : Mod b w w') (hne : g ≠ b) : Bx5 w' g x0 x1 x2 x3 x4 := h.keep (hm.block g h.lt hne)
theorem Bx5.upd {w w' : World} {g b : Nat} {x0 x1 x2 x3 x4 : Value} (h : Bx5 w g x0 x1 x2 x3 x4) (hm : Upd b w w') (hne : g ≠ b) : Bx5 w' g x0 x1 x2 x3 x4 := h.keep (hm.block g hne)
theorem Bx5.new (w : World) (x0 x1 x2 x3 x4 : Value) (T : TypeId) : Bx5 (w.alloc (.cells #[x0, x1, x2, x3, x4] T)) w.heap.size x0 x1 x2 x3 x4 := by
  constructor <;> simp
theorem Bx5.new1 (w : World) (o : Obj) (x0 x1 x2 x3 x4 : Value) (T : TypeId) : Bx5 ((w.alloc o).alloc (.cells #[x0, x1, x2, x3, x4] T)) (w.heap.size + 1) x0 x1 x2 x3 x4 := by
  have := Bx5.new (w.alloc o) x0 x1 x2 x3 x4 T
  rwa [size1] at this
theorem Bx5.new2 (w : World) (o1 o2 : Obj) (x0 x1 x2 x3 x4 : Value) (T : TypeId) : Bx5 (((w.alloc o1).alloc o2).alloc (.cells #[x0, x1, x2, x3, x4] T)) (w.heap.size + 1 + 1) x0 x1 x2 x3 x4 := by
  have := Bx5.new ((w.alloc o1).alloc o2) x0 x1 x2 x3 x4 T
  rwa [size2] at this
structure Gv0 (w : World) (b g : Nat) (fv : Value) : Prop where
  cg : w.cell? ⟨g, 0, none⟩ = some fv
  gb : g ≠ b
theorem Gv0.mod {w w' : World} {b g : Nat} {fv : Value} (h : Gv0 w b g fv) (hm : Mod b w w') : Gv0 w' b g fv := ⟨(hm.cell (World.block_lt_of_cell? _ _ h.cg) h.gb).trans h.cg, h.gb⟩
theorem Gv0.upd {w w' : World} {b g : Nat} {fv : Value} (h : Gv0 w b g fv) (hm : Upd b w w') : Gv0 w' b g fv := ⟨(World.cell?_of_block (w := w) (hm.block g h.gb)).trans h.cg, h.gb⟩
theorem Gv0.below {w w' : World} {b g : Nat} {fv : Value} (h : Gv0 w b g fv) (hb : Below w.heap.size w w') : Gv0 w' b g fv := ⟨(hb.cell (World.block_lt_of_cell? _ _ h.cg)).trans h.cg, h.gb⟩
theorem Gv0.alloc {w : World} {b g : Nat} {fv : Value} (h : Gv0 w b g fv) (o : Obj) : Gv0 (w.alloc o) b g fv := h.below ((Below.refl _ _).alloc (Nat.le_refl _) _)
/-- What a queue's reading function holds: itself, and the name. -/
def GvQ (w : World) (b g n : Nat) (nm : ByteArray) : Prop := Gv0 w b g (.func (.func 189) #[] #[.pointer (some ⟨n, 0, none⟩)]) ∧ Gv0 w b n (.string nm)
def GvM (w : World) (b g n c : Nat) (nm : ByteArray) (i : Nat) : Prop := Gv0 w b g (.func (.func 263) #[] #[.pointer (some ⟨n, 0, none⟩), .pointer (some ⟨c, 0, none⟩)]) ∧ Gv0 w b n (.string nm) ∧ Gv0 w b c (.int .u64 i)
theorem GvQ.mod {w w' : World} {b g n : Nat} {nm : ByteArray} (h : GvQ w b g n nm) (hm : Mod b w w') : GvQ w' b g n nm := ⟨h.1.mod hm, h.2.mod hm⟩
theorem GvQ.upd {w w' : World} {b g n : Nat} {nm : ByteArray} (h : GvQ w b g n nm) (hm : Upd b w w') : GvQ w' b g n nm := ⟨h.1.upd hm, h.2.upd hm⟩
theorem GvQ.below {w w' : World} {b g n : Nat} {nm : ByteArray} (h : GvQ w b g n nm) (hb : Below w.heap.size w w') : GvQ w' b g n nm := ⟨h.1.below hb, h.2.below hb⟩
theorem GvQ.alloc {w : World} {b g n : Nat} {nm : ByteArray} (h : GvQ w b g n nm) (o : Obj) : GvQ (w.alloc o) b g n nm := ⟨h.1.alloc o, h.2.alloc o⟩
theorem GvM.mod {w w' : World} {b g n c : Nat} {nm : ByteArray} {i : Nat} (h : GvM w b g n c nm i) (hm : Mod b w w') : GvM w' b g n c nm i := ⟨h.1.mod hm, h.2.1.mod hm, h.2.2.mod hm⟩
theorem GvM.upd {w w' : World} {b g n c : Nat} {nm : ByteArray} {i : Nat} (h : GvM w b g n c nm i) (hm : Upd b w w') : GvM w' b g n c nm i := ⟨h.1.upd hm, h.2.1.upd hm, h.2.2.upd hm⟩
theorem GvM.below {w w' : World} {b g n c : Nat} {nm : ByteArray} {i : Nat} (h : GvM w b g n c nm i) (hb : Below w.heap.size w w') : GvM w' b g n c nm i := ⟨h.1.below hb, h.2.1.below hb, h.2.2.below hb⟩
theorem GvM.alloc {w : World} {b g n c : Nat} {nm : ByteArray} {i : Nat} (h : GvM w b g n c nm i) (o : Obj) : GvM (w.alloc o) b g n c nm i := ⟨h.1.alloc o, h.2.1.alloc o, h.2.2.alloc o⟩
theorem getFnQ_gv {b g n : Nat} {nm s : ByteArray} {e : Int} {w : World} (h : Rd w b s e) (hG : GvQ w b g n nm) :
    Calls Tryz.prog 189 #[.pointer (some ⟨b, 0, none⟩), .pointer (some ⟨n, 0, none⟩)] w fun x w' => x = .returned (aggQ (getQ nm s e).1) ∧ Rd w' b (getQ nm s e).2.1 (getQ nm s e).2.2 ∧ Mod b w w' := getFnQ_any b n nm s e w h hG.2.cg hG.2.gb
theorem getFnM_gv {b g n c : Nat} {nm s : ByteArray} {i : Nat} {e : Int} {w : World} (h : Rd w b s e) (hG : GvM w b g n c nm i) :
    Calls Tryz.prog 263 #[.pointer (some ⟨b, 0, none⟩), .pointer (some ⟨n, 0, none⟩), .pointer (some ⟨c, 0, none⟩)] w fun x w' => x = .returned (aggM (getM nm i s e).1) ∧ Rd w' b (getM nm i s e).2.1 (getM nm i s e).2.2 ∧ Mod b w w' := getFnM_any b n c nm s i e w h hG.2.1.cg hG.2.1.gb hG.2.2.cg hG.2.2.gb
theorem rvQ {w : World} {g : Nat} {x0 x1 x2 x3 x4 : Value} {tmps : Array Value} (ht : tmps[3]? = some (.pointer (some ⟨g, 0, none⟩)))
    (h0 : w.cell? ⟨g, 0, none⟩ = some x0) (h1 : w.cell? ⟨g, 1, none⟩ = some x1) (h2 : w.cell? ⟨g, 2, none⟩ = some x2) (h3 : w.cell? ⟨g, 3, none⟩ = some x3) (h4 : w.cell? ⟨g, 4, none⟩ = some x4) :
    (results Tryz.f259 tmps).run Tryz.prog w = .ok (.agg #[x0, x1, x2, x3, x4]) w := by
  simp [results, Tryz.results259, go_sem, ht, h0, h1, h2, h3, h4]
set_option maxHeartbeats 4000000 in
theorem vgetQ_any (b g n : Nat) (nm : ByteArray) (s : ByteArray) (e : Int) (w : World) (h : Rd w b s e) (hG : GvQ w b g n nm) :
    Calls Tryz.prog 259 #[.pointer (some ⟨b, 0, none⟩), .pointer (some ⟨g, 0, none⟩)] w fun x w' => x = .returned (aggQ (verG zQ (getQ nm) s e).1) ∧ Rd w' b (verG zQ (getQ nm) s e).2.1 (verG zQ (getQ nm) s e).2.2 ∧ Mod b w w' := by
  have HLT := Lib.hid h.lt
  have HNE : Hid (w.heap.size ≠ b) := fun he => by have := HLT.out; omega
  have HNE1 : Hid (w.heap.size + 1 ≠ b) := fun he => by have := HLT.out; omega
  have HR := Lib.hid ((h.alloc (.cells #[.string ⟨#[]⟩, .int .u32 0, .int .u64 0, .int .u32 0, .string ⟨#[]⟩] 36)).alloc (.cells #[.string ⟨#[]⟩, .int .u32 0, .int .u64 0, .int .u32 0, .string ⟨#[]⟩] 36))
  have HG := Lib.hid ((hG.alloc (.cells #[.string ⟨#[]⟩, .int .u32 0, .int .u64 0, .int .u32 0, .string ⟨#[]⟩] 36)).alloc (.cells #[.string ⟨#[]⟩, .int .u32 0, .int .u64 0, .int .u32 0, .string ⟨#[]⟩] 36))
  have HB := Lib.hid ((Bx5.new w (.string ⟨#[]⟩) (.int .u32 0) (.int .u64 0) (.int .u32 0) (.string ⟨#[]⟩) 36).alloc (.cells #[.string ⟨#[]⟩, .int .u32 0, .int .u64 0, .int .u32 0, .string ⟨#[]⟩] 36))
  have HB1 := Lib.hid (Bx5.new1 w (.cells #[.string ⟨#[]⟩, .int .u32 0, .int .u64 0, .int .u32 0, .string ⟨#[]⟩] 36) (.string ⟨#[]⟩) (.int .u32 0) (.int .u64 0) (.int .u32 0) (.string ⟨#[]⟩) 36)
  have HM0 := Lib.hid ((Mod.refl b w).alloc (.cells #[.string ⟨#[]⟩, .int .u32 0, .int .u64 0, .int .u32 0, .string ⟨#[]⟩] 36) |>.alloc (.cells #[.string ⟨#[]⟩, .int .u32 0, .int .u64 0, .int .u32 0, .string ⟨#[]⟩] 36))
  clear h hG
  unfold verG
  simp only
  have HO := Lib.hid (fun W (hW : Rd W b s e) => one_rd b s e W hW)
  revert HO
  generalize tk s e 1 = O
  intro HO
  by_cases hv : Oc.val O.1.data.toList = 1
  · rw [if_pos hv]
    rw [hv] at HO
    clear hv
    have HF := Lib.hid (fun W (hW : Rd W b O.2.1 O.2.2) (hV : GvQ W b g n nm) => getFnQ_gv hW hV)
    revert HF
    generalize getQ nm O.2.1 O.2.2 = G
    intro HF
    have HE := Lib.hid (fun W (hW : Rd W b G.2.1 G.2.2) => err_any b G.2.1 G.2.2 W hW)
    obtain ⟨⟨q0, q1, q2, q3, q4⟩, r, f⟩ := G
    unfold aggQ at HF ⊢
    simp only at HF HE ⊢
    by_cases hf : f = 0
    · subst hf
      rw [if_pos rfl]
      go_enter Tryz.func259, Tryz.ntmps259
      go_wp2_with (first
        | (go_at_call 260; refine (HO.out _ HR.out).mono ?_; rintro x w1 ⟨rfl, hr1, hu1⟩; have HG1 := Lib.hid (HG.out.upd hu1); have qf := HG1.out.1.cg; have HB1' := Lib.hid (HB.out.upd hu1 HNE.out); have HM1 := Lib.hid (HM0.out.upd hu1))
        | (go_at_call 189; refine (HF.out _ hr1 HG1.out).mono ?_; rintro x w2 ⟨rfl, hr2, hm2⟩; have HR2 := Lib.hid (hr2.alloc (.cells #[.string q0, .int .u32 q1, .int .u64 q2, .int .u32 q3, .string q4] 36)); have HB2 := Lib.hid ((HB1'.out.mod hm2 HNE.out).alloc (.cells #[.string q0, .int .u32 q1, .int .u64 q2, .int .u32 q3, .string q4] 36)); have HM2 := Lib.hid ((HM1.out.trans hm2).alloc (.cells #[.string q0, .int .u32 q1, .int .u64 q2, .int .u32 q3, .string q4] 36)); clear qf)
        | (go_at_call 206; refine (HE.out _ HR2.out).mono ?_; rintro x w3 ⟨rfl, rfl⟩; obtain ⟨k0, k1, k2, k3, k4, f0, f1, f2, f3, f4⟩ := HB2.out))
      obtain ⟨s0, s1, s2, s3, s4⟩ := stored5 (v0 := .string q0) (v1 := .int .u32 q1) (v2 := .int .u64 q2) (v3 := .int .u32 q3) (v4 := .string q4) k0 k1 k2 k3 k4
      have hbe := fun W v0 v1 v2 v3 v4 => stored5_below (w := W) (v0 := v0) (v1 := v1) (v2 := v2) (v3 := v3) (v4 := v4) (Nat.le_refl w.heap.size)
      exact bodyPost_ret_by (rvQ rfl s0 s1 s2 s3 s4) rfl ⟨rfl, HR2.out.below' (hbe _ _ _ _ _ _) HLT.out, HM2.out.step' (hbe _ _ _ _ _ _)⟩
    · have hf' : (f != 0) = true := by rw [bne_iff_ne]; exact hf
      rw [if_neg hf]
      go_enter Tryz.func259, Tryz.ntmps259
      go_wp2_with (first
        | (go_at_call 260; refine (HO.out _ HR.out).mono ?_; rintro x w1 ⟨rfl, hr1, hu1⟩; have HG1 := Lib.hid (HG.out.upd hu1); have qf := HG1.out.1.cg; have HB1' := Lib.hid (HB.out.upd hu1 HNE.out); have HC1' := Lib.hid (HB1.out.upd hu1 HNE1.out); have HM1 := Lib.hid (HM0.out.upd hu1))
        | (go_at_call 189; refine (HF.out _ hr1 HG1.out).mono ?_; rintro x w2 ⟨rfl, hr2, hm2⟩; have HR2 := Lib.hid (hr2.alloc (.cells #[.string q0, .int .u32 q1, .int .u64 q2, .int .u32 q3, .string q4] 36)); have HB2 := Lib.hid ((HB1'.out.mod hm2 HNE.out).alloc (.cells #[.string q0, .int .u32 q1, .int .u64 q2, .int .u32 q3, .string q4] 36)); have HC2 := Lib.hid ((HC1'.out.mod hm2 HNE1.out).alloc (.cells #[.string q0, .int .u32 q1, .int .u64 q2, .int .u32 q3, .string q4] 36)); have HM2 := Lib.hid ((HM1.out.trans hm2).alloc (.cells #[.string q0, .int .u32 q1, .int .u64 q2, .int .u32 q3, .string q4] 36)); clear qf)
        | (go_at_call 206; refine (HE.out _ HR2.out).mono ?_; rintro x w3 ⟨rfl, rfl⟩; obtain ⟨k0, k1, k2, k3, k4, f0, f1, f2, f3, f4⟩ := HB2.out; obtain ⟨z0, z1, z2, z3, z4, _, _, _, _, _⟩ := HC2.out))
      obtain ⟨s0, s1, s2, s3, s4⟩ := stored5 (v0 := .string ⟨#[]⟩) (v1 := .int .u32 0) (v2 := .int .u64 0) (v3 := .int .u32 0) (v4 := .string ⟨#[]⟩) k0 k1 k2 k3 k4
      have hbe := fun W v0 v1 v2 v3 v4 => stored5_below (w := W) (v0 := v0) (v1 := v1) (v2 := v2) (v3 := v3) (v4 := v4) (Nat.le_refl w.heap.size)
      exact bodyPost_ret_by (rvQ rfl s0 s1 s2 s3 s4) rfl ⟨rfl, HR2.out.below' (hbe _ _ _ _ _ _) HLT.out, HM2.out.step' (hbe _ _ _ _ _ _)⟩
  · rw [if_neg hv]
    have HF := Lib.hid (fun W (hW : Rd W b O.2.1 O.2.2) => fail_any b O.2.1 O.2.2 4 W hW)
    revert HO hv HF
    generalize Oc.val O.1.data.toList = v
    generalize hx : (if O.2.2 = 0 then (4 : Int) else O.2.2) = x4
    intro HO hv HF
    clear hx
    have hd : ((v : Int) != 1) = true := by rw [bne_iff_ne]; omega
    unfold aggQ
    go_enter Tryz.func259, Tryz.ntmps259
    go_wp2_with (first
      | (go_at_call 260; refine (HO.out _ HR.out).mono ?_; rintro x w1 ⟨rfl, hr1, hu1⟩)
      | (go_at_call 261; refine (HF.out _ hr1).mono ?_; rintro x w2 ⟨rfl, hr2, hu2⟩; obtain ⟨k0, k1, k2, k3, k4, f0, f1, f2, f3, f4⟩ := (HB.out.upd hu1 HNE.out).upd hu2 HNE.out; obtain ⟨z0, z1, z2, z3, z4, _, _, _, _, _⟩ := (HB1.out.upd hu1 HNE1.out).upd hu2 HNE1.out))
    obtain ⟨s0, s1, s2, s3, s4⟩ := stored5 (v0 := .string ⟨#[]⟩) (v1 := .int .u32 0) (v2 := .int .u64 0) (v3 := .int .u32 0) (v4 := .string ⟨#[]⟩) k0 k1 k2 k3 k4
    have hbe := fun W v0 v1 v2 v3 v4 => stored5_below (w := W) (v0 := v0) (v1 := v1) (v2 := v2) (v3 := v3) (v4 := v4) (Nat.le_refl w.heap.size)
    exact bodyPost_ret_by (rvQ rfl s0 s1 s2 s3 s4) rfl ⟨rfl, hr2.below' (hbe _ _ _ _ _ _) HLT.out, ((HM0.out.upd hu1).upd hu2).step' (hbe _ _ _ _ _ _)⟩
theorem rvM {w : World} {g : Nat} {x0 x1 x2 x3 x4 : Value} {tmps : Array Value} (ht : tmps[3]? = some (.pointer (some ⟨g, 0, none⟩)))
    (h0 : w.cell? ⟨g, 0, none⟩ = some x0) (h1 : w.cell? ⟨g, 1, none⟩ = some x1) (h2 : w.cell? ⟨g, 2, none⟩ = some x2) (h3 : w.cell? ⟨g, 3, none⟩ = some x3) (h4 : w.cell? ⟨g, 4, none⟩ = some x4) :
    (results Tryz.f303 tmps).run Tryz.prog w = .ok (.agg #[x0, x1, x2, x3, x4]) w := by
  simp [results, Tryz.results303, go_sem, ht, h0, h1, h2, h3, h4]
set_option maxHeartbeats 4000000 in
theorem vgetM_any (b g n c : Nat) (nm : ByteArray) (i : Nat) (s : ByteArray) (e : Int) (w : World) (h : Rd w b s e) (hG : GvM w b g n c nm i) :
    Calls Tryz.prog 303 #[.pointer (some ⟨b, 0, none⟩), .pointer (some ⟨g, 0, none⟩)] w fun x w' => x = .returned (aggM (verG zM (getM nm i) s e).1) ∧ Rd w' b (verG zM (getM nm i) s e).2.1 (verG zM (getM nm i) s e).2.2 ∧ Mod b w w' := by
  have HLT := Lib.hid h.lt
  have HNE : Hid (w.heap.size ≠ b) := fun he => by have := HLT.out; omega
  have HNE1 : Hid (w.heap.size + 1 ≠ b) := fun he => by have := HLT.out; omega
  have HR := Lib.hid ((h.alloc (.cells #[.string ⟨#[]⟩, .int .u64 0, .int .u32 0, .int .u64 0, .string ⟨#[]⟩] 62)).alloc (.cells #[.string ⟨#[]⟩, .int .u64 0, .int .u32 0, .int .u64 0, .string ⟨#[]⟩] 62))
  have HG := Lib.hid ((hG.alloc (.cells #[.string ⟨#[]⟩, .int .u64 0, .int .u32 0, .int .u64 0, .string ⟨#[]⟩] 62)).alloc (.cells #[.string ⟨#[]⟩, .int .u64 0, .int .u32 0, .int .u64 0, .string ⟨#[]⟩] 62))
  have HB := Lib.hid ((Bx5.new w (.string ⟨#[]⟩) (.int .u64 0) (.int .u32 0) (.int .u64 0) (.string ⟨#[]⟩) 62).alloc (.cells #[.string ⟨#[]⟩, .int .u64 0, .int .u32 0, .int .u64 0, .string ⟨#[]⟩] 62))
  have HB1 := Lib.hid (Bx5.new1 w (.cells #[.string ⟨#[]⟩, .int .u64 0, .int .u32 0, .int .u64 0, .string ⟨#[]⟩] 62) (.string ⟨#[]⟩) (.int .u64 0) (.int .u32 0) (.int .u64 0) (.string ⟨#[]⟩) 62)
  have HM0 := Lib.hid ((Mod.refl b w).alloc (.cells #[.string ⟨#[]⟩, .int .u64 0, .int .u32 0, .int .u64 0, .string ⟨#[]⟩] 62) |>.alloc (.cells #[.string ⟨#[]⟩, .int .u64 0, .int .u32 0, .int .u64 0, .string ⟨#[]⟩] 62))
  clear h hG
  unfold verG
  simp only
  have HO := Lib.hid (fun W (hW : Rd W b s e) => one_rd b s e W hW)
  revert HO
  generalize tk s e 1 = O
  intro HO
  by_cases hv : Oc.val O.1.data.toList = 1
  · rw [if_pos hv]
    rw [hv] at HO
    clear hv
    have HF := Lib.hid (fun W (hW : Rd W b O.2.1 O.2.2) (hV : GvM W b g n c nm i) => getFnM_gv hW hV)
    revert HF
    generalize getM nm i O.2.1 O.2.2 = G
    intro HF
    have HE := Lib.hid (fun W (hW : Rd W b G.2.1 G.2.2) => err_any b G.2.1 G.2.2 W hW)
    obtain ⟨⟨q0, q1, q2, q3, q4⟩, r, f⟩ := G
    unfold aggM at HF ⊢
    simp only at HF HE ⊢
    by_cases hf : f = 0
    · subst hf
      rw [if_pos rfl]
      go_enter Tryz.func303, Tryz.ntmps303
      go_wp2_with (first
        | (go_at_call 260; refine (HO.out _ HR.out).mono ?_; rintro x w1 ⟨rfl, hr1, hu1⟩; have HG1 := Lib.hid (HG.out.upd hu1); have qf := HG1.out.1.cg; have HB1' := Lib.hid (HB.out.upd hu1 HNE.out); have HM1 := Lib.hid (HM0.out.upd hu1))
        | (go_at_call 263; refine (HF.out _ hr1 HG1.out).mono ?_; rintro x w2 ⟨rfl, hr2, hm2⟩; have HR2 := Lib.hid (hr2.alloc (.cells #[.string q0, .int .u64 q1, .int .u32 q2, .int .u64 q3, .string q4] 62)); have HB2 := Lib.hid ((HB1'.out.mod hm2 HNE.out).alloc (.cells #[.string q0, .int .u64 q1, .int .u32 q2, .int .u64 q3, .string q4] 62)); have HM2 := Lib.hid ((HM1.out.trans hm2).alloc (.cells #[.string q0, .int .u64 q1, .int .u32 q2, .int .u64 q3, .string q4] 62)); clear qf)
        | (go_at_call 206; refine (HE.out _ HR2.out).mono ?_; rintro x w3 ⟨rfl, rfl⟩; obtain ⟨k0, k1, k2, k3, k4, f0, f1, f2, f3, f4⟩ := HB2.out))
      obtain ⟨s0, s1, s2, s3, s4⟩ := stored5 (v0 := .string q0) (v1 := .int .u64 q1) (v2 := .int .u32 q2) (v3 := .int .u64 q3) (v4 := .string q4) k0 k1 k2 k3 k4
      have hbe := fun W v0 v1 v2 v3 v4 => stored5_below (w := W) (v0 := v0) (v1 := v1) (v2 := v2) (v3 := v3) (v4 := v4) (Nat.le_refl w.heap.size)
      exact bodyPost_ret_by (rvM rfl s0 s1 s2 s3 s4) rfl ⟨rfl, HR2.out.below' (hbe _ _ _ _ _ _) HLT.out, HM2.out.step' (hbe _ _ _ _ _ _)⟩
    · have hf' : (f != 0) = true := by rw [bne_iff_ne]; exact hf
      rw [if_neg hf]
      go_enter Tryz.func303, Tryz.ntmps303
      go_wp2_with (first
        | (go_at_call 260; refine (HO.out _ HR.out).mono ?_; rintro x w1 ⟨rfl, hr1, hu1⟩; have HG1 := Lib.hid (HG.out.upd hu1); have qf := HG1.out.1.cg; have HB1' := Lib.hid (HB.out.upd hu1 HNE.out); have HC1' := Lib.hid (HB1.out.upd hu1 HNE1.out); have HM1 := Lib.hid (HM0.out.upd hu1))
        | (go_at_call 263; refine (HF.out _ hr1 HG1.out).mono ?_; rintro x w2 ⟨rfl, hr2, hm2⟩; have HR2 := Lib.hid (hr2.alloc (.cells #[.string q0, .int .u64 q1, .int .u32 q2, .int .u64 q3, .string q4] 62)); have HB2 := Lib.hid ((HB1'.out.mod hm2 HNE.out).alloc (.cells #[.string q0, .int .u64 q1, .int .u32 q2, .int .u64 q3, .string q4] 62)); have HC2 := Lib.hid ((HC1'.out.mod hm2 HNE1.out).alloc (.cells #[.string q0, .int .u64 q1, .int .u32 q2, .int .u64 q3, .string q4] 62)); have HM2 := Lib.hid ((HM1.out.trans hm2).alloc (.cells #[.string q0, .int .u64 q1, .int .u32 q2, .int .u64 q3, .string q4] 62)); clear qf)
        | (go_at_call 206; refine (HE.out _ HR2.out).mono ?_; rintro x w3 ⟨rfl, rfl⟩; obtain ⟨k0, k1, k2, k3, k4, f0, f1, f2, f3, f4⟩ := HB2.out; obtain ⟨z0, z1, z2, z3, z4, _, _, _, _, _⟩ := HC2.out))
      obtain ⟨s0, s1, s2, s3, s4⟩ := stored5 (v0 := .string ⟨#[]⟩) (v1 := .int .u64 0) (v2 := .int .u32 0) (v3 := .int .u64 0) (v4 := .string ⟨#[]⟩) k0 k1 k2 k3 k4
      have hbe := fun W v0 v1 v2 v3 v4 => stored5_below (w := W) (v0 := v0) (v1 := v1) (v2 := v2) (v3 := v3) (v4 := v4) (Nat.le_refl w.heap.size)
      exact bodyPost_ret_by (rvM rfl s0 s1 s2 s3 s4) rfl ⟨rfl, HR2.out.below' (hbe _ _ _ _ _ _) HLT.out, HM2.out.step' (hbe _ _ _ _ _ _)⟩
  · rw [if_neg hv]
    have HF := Lib.hid (fun W (hW : Rd W b O.2.1 O.2.2) => fail_any b O.2.1 O.2.2 4 W hW)
    revert HO hv HF
    generalize Oc.val O.1.data.toList = v
    generalize hx : (if O.2.2 = 0 then (4 : Int) else O.2.2) = x4
    intro HO hv HF
    clear hx
    have hd : ((v : Int) != 1) = true := by rw [bne_iff_ne]; omega
    unfold aggM
    go_enter Tryz.func303, Tryz.ntmps303
    go_wp2_with (first
      | (go_at_call 260; refine (HO.out _ HR.out).mono ?_; rintro x w1 ⟨rfl, hr1, hu1⟩)
      | (go_at_call 261; refine (HF.out _ hr1).mono ?_; rintro x w2 ⟨rfl, hr2, hu2⟩; obtain ⟨k0, k1, k2, k3, k4, f0, f1, f2, f3, f4⟩ := (HB.out.upd hu1 HNE.out).upd hu2 HNE.out; obtain ⟨z0, z1, z2, z3, z4, _, _, _, _, _⟩ := (HB1.out.upd hu1 HNE1.out).upd hu2 HNE1.out))
    obtain ⟨s0, s1, s2, s3, s4⟩ := stored5 (v0 := .string ⟨#[]⟩) (v1 := .int .u64 0) (v2 := .int .u32 0) (v3 := .int .u64 0) (v4 := .string ⟨#[]⟩) k0 k1 k2 k3 k4
    have hbe := fun W v0 v1 v2 v3 v4 => stored5_below (w := W) (v0 := v0) (v1 := v1) (v2 := v2) (v3 := v3) (v4 := v4) (Nat.le_refl w.heap.size)
    exact bodyPost_ret_by (rvM rfl s0 s1 s2 s3 s4) rfl ⟨rfl, hr2.below' (hbe _ _ _ _ _ _) HLT.out, ((HM0.out.upd hu1).upd hu2).step' (hbe _ _ _ _ _ _)⟩
end Go.Proofs.YtgmneapgihakgaaGreatDoor
/- The contracts of a versioned codec's get and Read: of a queue, a message. -/
namespace Go.Proofs.YtgmneapgihakgaaGreatDoor
open Go.RowKit
theorem cellf (w : World) (o1 : Obj) (x : Value) (T : TypeId) : ((w.alloc o1).alloc (.cells #[x] T)).cell? ⟨w.heap.size + 1, 0, none⟩ = some x := cell2 w o1 x T
theorem over_at (s : ByteArray) (b : Nat) (w : World) (hb : w.heap.size = b) :
    Calls Tryz.prog 203 #[.string s] w fun e w' => e = .returned (.pointer (some ⟨b, 0, none⟩)) ∧ Rd w' b s 0 ∧ Below w.heap.size w w' := by
  subst hb; exact over_any s w
theorem size3 (w : World) (o1 o2 o3 : Obj) : (((w.alloc o1).alloc o2).alloc o3).heap.size = w.heap.size + 1 + 1 + 1 := by rw [size1, size2]
/-- The box of a codec. -/
structure Cd2 (w : World) (g : Nat) (pv gv : Value) : Prop where
  c0 : w.cell? ⟨g, 0, none⟩ = some pv
  c1 : w.cell? ⟨g, 1, none⟩ = some gv
theorem Cd2.lt {w : World} {g : Nat} {pv gv : Value} (h : Cd2 w g pv gv) : g < w.heap.size := World.block_lt_of_cell? _ _ h.c0
theorem Cd2.keep {w w' : World} {g : Nat} {pv gv : Value} (h : Cd2 w g pv gv) (hk : w'.heap[g]? = w.heap[g]?) : Cd2 w' g pv gv :=
  ⟨(World.cell?_of_block (w := w) hk).trans h.c0, (World.cell?_of_block (w := w) hk).trans h.c1⟩
theorem Cd2.below {w w' : World} {g : Nat} {pv gv : Value} (h : Cd2 w g pv gv) (hb : Below w.heap.size w w') : Cd2 w' g pv gv := h.keep (hb.block g h.lt)
theorem Cd2.mod {w w' : World} {g b : Nat} {pv gv : Value} (h : Cd2 w g pv gv) (hm : Mod b w w') (hne : g ≠ b) : Cd2 w' g pv gv := h.keep (hm.block g h.lt hne)
theorem Cd2.alloc {w : World} {g : Nat} {pv gv : Value} (h : Cd2 w g pv gv) (o : Obj) : Cd2 (w.alloc o) g pv gv := h.below ((Below.refl _ _).alloc (Nat.le_refl _) _)
theorem Cd2.new (w : World) (pv gv : Value) (T : TypeId) : Cd2 (w.alloc (.cells #[pv, gv] T)) w.heap.size pv gv := by constructor <;> simp
theorem idleGQ (p : Addr) (w : World) :
    CallsD Tryz.prog 295 #[.pointer (some p)] .returning w fun e u' w' => e = .returned (.tuple #[]) ∧ u' = .returning ∧ w' = w := by
  refine callsD_of_wpS Tryz.func295 rfl fun c₀ cs hu => ?_
  apply wpS_seq
  apply wpS_region
  simp [wpOpsS, go_sem, recoverD, hu, Tryz.ntmps295, Exit.thenS]
  refine wpS_cond (t := false) (by simp [Act.eval, Array.replicate]) ?_
  simp only [Bool.false_eq_true, if_false]
  refine wpS_of_wp (wp_skip ?_)
  cases c₀
  simp_all [bodyPostS, results, Tryz.results295]
set_option maxHeartbeats 2000000 in
theorem getQ_any (pv : Value) (b g n : Nat) (nm : ByteArray) (s : ByteArray) (e : Int) (w : World) (h : Rd w b s e) (hG : GvQ w b g n nm) :
    Calls Tryz.prog 242 #[.agg #[pv, .func (.func 259) #[] #[.pointer (some ⟨g, 0, none⟩)]], .pointer (some ⟨b, 0, none⟩)] w fun x w' => x = .returned (aggQ (verG zQ (getQ nm) s e).1) ∧ Rd w' b (verG zQ (getQ nm) s e).2.1 (verG zQ (getQ nm) s e).2.2 ∧ Mod b w w' := by
  have hmf : ∀ (fn : Fn) (first cap : Array Value) (w : World), (Instr.makeFunc fn first cap).run Tryz.prog w = .ok (.func fn first cap) w := fun _ _ _ _ => rfl
  have HLT := Lib.hid h.lt
  have HNE : Hid (w.heap.size + 1 + 1 ≠ b) := fun he => by have := HLT.out; omega
  have HR : Hid (∀ o1 o2 o3, Rd (((w.alloc o1).alloc o2).alloc o3) b s e) := fun o1 o2 o3 => ((h.alloc o1).alloc o2).alloc o3
  have HGV : Hid (∀ o1 o2 o3, GvQ (((w.alloc o1).alloc o2).alloc o3) b g n nm) := fun o1 o2 o3 => ((hG.alloc o1).alloc o2).alloc o3
  have HB : Hid (∀ o1 o2, Bx5 (((w.alloc o1).alloc o2).alloc (.cells #[.string ⟨#[]⟩, .int .u32 0, .int .u64 0, .int .u32 0, .string ⟨#[]⟩] 36)) (w.heap.size + 1 + 1) (.string ⟨#[]⟩) (.int .u32 0) (.int .u64 0) (.int .u32 0) (.string ⟨#[]⟩)) := fun o1 o2 => Bx5.new2 w o1 o2 (.string ⟨#[]⟩) (.int .u32 0) (.int .u64 0) (.int .u32 0) (.string ⟨#[]⟩) _
  clear h hG
  have HV := Lib.hid (fun W (hW : Rd W b s e) (hV : GvQ W b g n nm) => vgetQ_any b g n nm s e W hW hV)
  revert HV
  generalize verG zQ (getQ nm) s e = G
  obtain ⟨⟨q0, q1, q2, q3, q4⟩, r, f⟩ := G
  intro HV
  unfold aggQ at HV ⊢
  simp only at HV ⊢
  go_enter_defers Tryz.func242, Tryz.ntmps242
  go_wp2_with (go_at_call 259; go_loud (refine (HV.out _ (HR.out _ _ _) (HGV.out _ _ _)).mono ?_; rintro x w1 ⟨rfl, hr1, hm1⟩; obtain ⟨k0, k1, k2, k3, k4, f0, f1, f2, f3, f4⟩ := (HB.out _ _).mod hm1 HNE.out))
  obtain ⟨s0, s1, s2, s3, s4⟩ := stored5 (v0 := .string q0) (v1 := .int .u32 q1) (v2 := .int .u64 q2) (v3 := .int .u32 q3) (v4 := .string q4) k0 k1 k2 k3 k4
  have hbe := fun W v0 v1 v2 v3 v4 => stored5_below (w := W) (v0 := v0) (v1 := v1) (v2 := v2) (v3 := v3) (v4 := v4) (show w.heap.size ≤ w.heap.size + 1 + 1 by omega)
  refine leaves_cons (f := 295) (args := #[.pointer (some ⟨w.heap.size + 1, 0, none⟩)]) (by simp) (by simp [go_sem]) ?_
  refine (idleGQ ⟨w.heap.size + 1, 0, none⟩ _).mono ?_
  rintro e u' w'' ⟨rfl, rfl, rfl⟩
  simp [Leaves, settle, results, Tryz.results242, go_sem, s0, s1, s2, s3, s4]
  exact ⟨hr1.below' (hbe _ _ _ _ _ _) HLT.out, (Mod.old (Mod.old (Mod.old hm1))).step' (hbe _ _ _ _ _ _)⟩
theorem rrQ {w : World} {g : Nat} {x0 x1 x2 x3 x4 : Value} {e : Int} {tmps : Array Value} (ht : tmps[4]? = some (.pointer (some ⟨g, 0, none⟩))) (h5 : tmps[5]? = some (.int .i64 e))
    (h0 : w.cell? ⟨g, 0, none⟩ = some x0) (h1 : w.cell? ⟨g, 1, none⟩ = some x1) (h2 : w.cell? ⟨g, 2, none⟩ = some x2) (h3 : w.cell? ⟨g, 3, none⟩ = some x3) (h4 : w.cell? ⟨g, 4, none⟩ = some x4) :
    (results Tryz.f170 tmps).run Tryz.prog w = .ok (.tuple #[.agg #[x0, x1, x2, x3, x4], .int .i64 e]) w := by
  simp [results, Tryz.results170, go_sem, ht, h0, h1, h2, h3, h4, h5]
set_option maxHeartbeats 2000000 in
theorem readQ_any (pv : Value) (g n : Nat) (nm : ByteArray) (s : ByteArray) (w : World) (hG : ∀ b, w.heap.size ≤ b → GvQ w b g n nm) :
    Calls Tryz.prog 170 #[.agg #[pv, .func (.func 259) #[] #[.pointer (some ⟨g, 0, none⟩)]], .string s] w fun x w' => x = .returned (.tuple #[aggQ (readG zQ (getQ nm) s).1, .int .i64 (readG zQ (getQ nm) s).2]) ∧ Below w.heap.size w w' := by
  have heq : ∀ w, (binOp .eql 174 (.func (.func 259) #[] #[.pointer (some ⟨g, 0, none⟩)]) .nilFunc).run Tryz.prog w = .ok (.bool false) w := fun w => by kernel_rfl
  have HC0 := Lib.hid (((Cd2.new w pv (.func (.func 259) #[] #[.pointer (some ⟨g, 0, none⟩)]) 176).alloc (.cells #[.string ⟨#[]⟩, .int .u32 0, .int .u64 0, .int .u32 0, .string ⟨#[]⟩] 36)).alloc (.cells #[.string ⟨#[]⟩, .int .u32 0, .int .u64 0, .int .u32 0, .string ⟨#[]⟩] 36))
  have HT0 := Lib.hid ((Bx5.new1 w (.cells #[pv, .func (.func 259) #[] #[.pointer (some ⟨g, 0, none⟩)]] 176) (.string ⟨#[]⟩) (.int .u32 0) (.int .u64 0) (.int .u32 0) (.string ⟨#[]⟩) 36).alloc (.cells #[.string ⟨#[]⟩, .int .u32 0, .int .u64 0, .int .u32 0, .string ⟨#[]⟩] 36))
  have HZ0 := Lib.hid (Bx5.new2 w (.cells #[pv, .func (.func 259) #[] #[.pointer (some ⟨g, 0, none⟩)]] 176) (.cells #[.string ⟨#[]⟩, .int .u32 0, .int .u64 0, .int .u32 0, .string ⟨#[]⟩] 36) (.string ⟨#[]⟩) (.int .u32 0) (.int .u64 0) (.int .u32 0) (.string ⟨#[]⟩) 36)
  have HB0 := Lib.hid (below3 w (.cells #[pv, .func (.func 259) #[] #[.pointer (some ⟨g, 0, none⟩)]] 176) (.cells #[.string ⟨#[]⟩, .int .u32 0, .int .u64 0, .int .u32 0, .string ⟨#[]⟩] 36) (.cells #[.string ⟨#[]⟩, .int .u32 0, .int .u64 0, .int .u32 0, .string ⟨#[]⟩] 36))
  have HSZ := Lib.hid (size3 w (.cells #[pv, .func (.func 259) #[] #[.pointer (some ⟨g, 0, none⟩)]] 176) (.cells #[.string ⟨#[]⟩, .int .u32 0, .int .u64 0, .int .u32 0, .string ⟨#[]⟩] 36) (.cells #[.string ⟨#[]⟩, .int .u32 0, .int .u64 0, .int .u32 0, .string ⟨#[]⟩] 36))
  have HGV := Lib.hid (fun b (hb : w.heap.size ≤ b) => (((hG b hb).alloc (.cells #[pv, .func (.func 259) #[] #[.pointer (some ⟨g, 0, none⟩)]] 176)).alloc (.cells #[.string ⟨#[]⟩, .int .u32 0, .int .u64 0, .int .u32 0, .string ⟨#[]⟩] 36)).alloc (.cells #[.string ⟨#[]⟩, .int .u32 0, .int .u64 0, .int .u32 0, .string ⟨#[]⟩] 36))
  have HG := Lib.hid (fun b W (hW : Rd W b s 0) (hV : GvQ W b g n nm) => getQ_any pv b g n nm s 0 W hW hV)
  clear hG
  unfold readG
  revert HG
  generalize verG zQ (getQ nm) s 0 = G
  obtain ⟨⟨q0, q1, q2, q3, q4⟩, r, f⟩ := G
  intro HG
  simp only at HG ⊢
  have HE := Lib.hid (fun b W (hW : Rd W b r f) => end_rd b r f W hW)
  revert HE
  generalize fin r f = y
  intro HE
  unfold aggQ at HG ⊢
  simp only at HG
  by_cases hf : y = 0
  · subst hf
    rw [if_pos rfl]
    obtain ⟨b, hb⟩ : ∃ b, b = w.heap.size + 1 + 1 + 1 := ⟨_, rfl⟩
    have HBE := Lib.hid hb
    clear hb
    go_enter Tryz.func170, Tryz.ntmps170
    go_wp2_with (first
      | (go_at_call 203; refine (over_at _ b _ (by rw [HSZ.out, HBE.out])).mono ?_; rintro e w1 ⟨rfl, hr1, hb1⟩; have HC1 := Lib.hid (HC0.out.below hb1); have HT1 := Lib.hid (HT0.out.below hb1); have HGV1 := Lib.hid ((HGV.out b (by rw [HBE.out]; omega)).below hb1); have HW1 := Lib.hid (below_step HB0.out hb1); have qa := HC1.out.c0; have qb := HC1.out.c1)
      | (go_at_call 242; refine (HG.out _ _ hr1 HGV1.out).mono ?_; rintro e w2 ⟨rfl, hr2, hm2⟩; have HW2 : Hid (Below w.heap.size w (w2.alloc (.cells #[.string q0, .int .u32 q1, .int .u64 q2, .int .u32 q3, .string q4] 36))) := (HW1.out.trans (hm2.below (by rw [HBE.out]; omega) HW1.out.size)).alloc (Nat.le_trans HW1.out.size hm2.size) _; have HT2 := Lib.hid ((HT1.out.mod hm2 (by rw [HBE.out]; omega)).alloc (.cells #[.string q0, .int .u32 q1, .int .u64 q2, .int .u32 q3, .string q4] 36)))
      | (go_at_call 238; refine (HE.out _ _ (hr2.alloc _)).mono ?_; rintro e w3 ⟨rfl, rfl⟩; obtain ⟨k0, k1, k2, k3, k4, f0, f1, f2, f3, f4⟩ := HT2.out))
    obtain ⟨s0, s1, s2, s3, s4⟩ := stored5 (v0 := .string q0) (v1 := .int .u32 q1) (v2 := .int .u64 q2) (v3 := .int .u32 q3) (v4 := .string q4) k0 k1 k2 k3 k4
    exact bodyPost_ret_by (rrQ rfl rfl s0 s1 s2 s3 s4) rfl ⟨rfl, HW2.out.trans (stored5_below (show w.heap.size ≤ w.heap.size + 1 by omega))⟩
  · have hf' : (y != 0) = true := by rw [bne_iff_ne]; exact hf
    rw [if_neg hf]
    obtain ⟨b, hb⟩ : ∃ b, b = w.heap.size + 1 + 1 + 1 := ⟨_, rfl⟩
    have HBE := Lib.hid hb
    clear hb
    go_enter Tryz.func170, Tryz.ntmps170
    go_wp2_with (first
      | (go_at_call 203; refine (over_at _ b _ (by rw [HSZ.out, HBE.out])).mono ?_; rintro e w1 ⟨rfl, hr1, hb1⟩; have HC1 := Lib.hid (HC0.out.below hb1); have HT1 := Lib.hid (HT0.out.below hb1); have HZ1 := Lib.hid (HZ0.out.below hb1); have HGV1 := Lib.hid ((HGV.out b (by rw [HBE.out]; omega)).below hb1); have HW1 := Lib.hid (below_step HB0.out hb1); have qa := HC1.out.c0; have qb := HC1.out.c1)
      | (go_at_call 242; refine (HG.out _ _ hr1 HGV1.out).mono ?_; rintro e w2 ⟨rfl, hr2, hm2⟩; have HW2 : Hid (Below w.heap.size w (w2.alloc (.cells #[.string q0, .int .u32 q1, .int .u64 q2, .int .u32 q3, .string q4] 36))) := (HW1.out.trans (hm2.below (by rw [HBE.out]; omega) HW1.out.size)).alloc (Nat.le_trans HW1.out.size hm2.size) _; have HT2 := Lib.hid ((HT1.out.mod hm2 (by rw [HBE.out]; omega)).alloc (.cells #[.string q0, .int .u32 q1, .int .u64 q2, .int .u32 q3, .string q4] 36)); have HZ2 := Lib.hid ((HZ1.out.mod hm2 (by rw [HBE.out]; omega)).alloc (.cells #[.string q0, .int .u32 q1, .int .u64 q2, .int .u32 q3, .string q4] 36)))
      | (go_at_call 238; refine (HE.out _ _ (hr2.alloc _)).mono ?_; rintro e w3 ⟨rfl, rfl⟩; obtain ⟨k0, k1, k2, k3, k4, f0, f1, f2, f3, f4⟩ := HT2.out; obtain ⟨z0, z1, z2, z3, z4, _, _, _, _, _⟩ := HZ2.out))
    obtain ⟨s0, s1, s2, s3, s4⟩ := stored5 (v0 := .string ⟨#[]⟩) (v1 := .int .u32 0) (v2 := .int .u64 0) (v3 := .int .u32 0) (v4 := .string ⟨#[]⟩) k0 k1 k2 k3 k4
    exact bodyPost_ret_by (rrQ rfl rfl s0 s1 s2 s3 s4) rfl ⟨rfl, HW2.out.trans (stored5_below (show w.heap.size ≤ w.heap.size + 1 by omega))⟩
theorem idleGM (p : Addr) (w : World) :
    CallsD Tryz.prog 304 #[.pointer (some p)] .returning w fun e u' w' => e = .returned (.tuple #[]) ∧ u' = .returning ∧ w' = w := by
  refine callsD_of_wpS Tryz.func304 rfl fun c₀ cs hu => ?_
  apply wpS_seq
  apply wpS_region
  simp [wpOpsS, go_sem, recoverD, hu, Tryz.ntmps304, Exit.thenS]
  refine wpS_cond (t := false) (by simp [Act.eval, Array.replicate]) ?_
  simp only [Bool.false_eq_true, if_false]
  refine wpS_of_wp (wp_skip ?_)
  cases c₀
  simp_all [bodyPostS, results, Tryz.results304]
set_option maxHeartbeats 2000000 in
theorem getM_any (pv : Value) (b g n c : Nat) (nm : ByteArray) (i : Nat) (s : ByteArray) (e : Int) (w : World) (h : Rd w b s e) (hG : GvM w b g n c nm i) :
    Calls Tryz.prog 265 #[.agg #[pv, .func (.func 303) #[] #[.pointer (some ⟨g, 0, none⟩)]], .pointer (some ⟨b, 0, none⟩)] w fun x w' => x = .returned (aggM (verG zM (getM nm i) s e).1) ∧ Rd w' b (verG zM (getM nm i) s e).2.1 (verG zM (getM nm i) s e).2.2 ∧ Mod b w w' := by
  have hmf : ∀ (fn : Fn) (first cap : Array Value) (w : World), (Instr.makeFunc fn first cap).run Tryz.prog w = .ok (.func fn first cap) w := fun _ _ _ _ => rfl
  have HLT := Lib.hid h.lt
  have HNE : Hid (w.heap.size + 1 + 1 ≠ b) := fun he => by have := HLT.out; omega
  have HR : Hid (∀ o1 o2 o3, Rd (((w.alloc o1).alloc o2).alloc o3) b s e) := fun o1 o2 o3 => ((h.alloc o1).alloc o2).alloc o3
  have HGV : Hid (∀ o1 o2 o3, GvM (((w.alloc o1).alloc o2).alloc o3) b g n c nm i) := fun o1 o2 o3 => ((hG.alloc o1).alloc o2).alloc o3
  have HB : Hid (∀ o1 o2, Bx5 (((w.alloc o1).alloc o2).alloc (.cells #[.string ⟨#[]⟩, .int .u64 0, .int .u32 0, .int .u64 0, .string ⟨#[]⟩] 62)) (w.heap.size + 1 + 1) (.string ⟨#[]⟩) (.int .u64 0) (.int .u32 0) (.int .u64 0) (.string ⟨#[]⟩)) := fun o1 o2 => Bx5.new2 w o1 o2 (.string ⟨#[]⟩) (.int .u64 0) (.int .u32 0) (.int .u64 0) (.string ⟨#[]⟩) _
  clear h hG
  have HV := Lib.hid (fun W (hW : Rd W b s e) (hV : GvM W b g n c nm i) => vgetM_any b g n c nm i s e W hW hV)
  revert HV
  generalize verG zM (getM nm i) s e = G
  obtain ⟨⟨q0, q1, q2, q3, q4⟩, r, f⟩ := G
  intro HV
  unfold aggM at HV ⊢
  simp only at HV ⊢
  go_enter_defers Tryz.func265, Tryz.ntmps265
  go_wp2_with (go_at_call 303; go_loud (refine (HV.out _ (HR.out _ _ _) (HGV.out _ _ _)).mono ?_; rintro x w1 ⟨rfl, hr1, hm1⟩; obtain ⟨k0, k1, k2, k3, k4, f0, f1, f2, f3, f4⟩ := (HB.out _ _).mod hm1 HNE.out))
  obtain ⟨s0, s1, s2, s3, s4⟩ := stored5 (v0 := .string q0) (v1 := .int .u64 q1) (v2 := .int .u32 q2) (v3 := .int .u64 q3) (v4 := .string q4) k0 k1 k2 k3 k4
  have hbe := fun W v0 v1 v2 v3 v4 => stored5_below (w := W) (v0 := v0) (v1 := v1) (v2 := v2) (v3 := v3) (v4 := v4) (show w.heap.size ≤ w.heap.size + 1 + 1 by omega)
  refine leaves_cons (f := 304) (args := #[.pointer (some ⟨w.heap.size + 1, 0, none⟩)]) (by simp) (by simp [go_sem]) ?_
  refine (idleGM ⟨w.heap.size + 1, 0, none⟩ _).mono ?_
  rintro e u' w'' ⟨rfl, rfl, rfl⟩
  simp [Leaves, settle, results, Tryz.results265, go_sem, s0, s1, s2, s3, s4]
  exact ⟨hr1.below' (hbe _ _ _ _ _ _) HLT.out, (Mod.old (Mod.old (Mod.old hm1))).step' (hbe _ _ _ _ _ _)⟩
theorem rrM {w : World} {g : Nat} {x0 x1 x2 x3 x4 : Value} {e : Int} {tmps : Array Value} (ht : tmps[4]? = some (.pointer (some ⟨g, 0, none⟩))) (h5 : tmps[5]? = some (.int .i64 e))
    (h0 : w.cell? ⟨g, 0, none⟩ = some x0) (h1 : w.cell? ⟨g, 1, none⟩ = some x1) (h2 : w.cell? ⟨g, 2, none⟩ = some x2) (h3 : w.cell? ⟨g, 3, none⟩ = some x3) (h4 : w.cell? ⟨g, 4, none⟩ = some x4) :
    (results Tryz.f200 tmps).run Tryz.prog w = .ok (.tuple #[.agg #[x0, x1, x2, x3, x4], .int .i64 e]) w := by
  simp [results, Tryz.results200, go_sem, ht, h0, h1, h2, h3, h4, h5]
set_option maxHeartbeats 2000000 in
theorem readM_any (pv : Value) (g n c : Nat) (nm : ByteArray) (i : Nat) (s : ByteArray) (w : World) (hG : ∀ b, w.heap.size ≤ b → GvM w b g n c nm i) :
    Calls Tryz.prog 200 #[.agg #[pv, .func (.func 303) #[] #[.pointer (some ⟨g, 0, none⟩)]], .string s] w fun x w' => x = .returned (.tuple #[aggM (readG zM (getM nm i) s).1, .int .i64 (readG zM (getM nm i) s).2]) ∧ Below w.heap.size w w' := by
  have heq : ∀ w, (binOp .eql 289 (.func (.func 303) #[] #[.pointer (some ⟨g, 0, none⟩)]) .nilFunc).run Tryz.prog w = .ok (.bool false) w := fun w => by kernel_rfl
  have HC0 := Lib.hid (((Cd2.new w pv (.func (.func 303) #[] #[.pointer (some ⟨g, 0, none⟩)]) 291).alloc (.cells #[.string ⟨#[]⟩, .int .u64 0, .int .u32 0, .int .u64 0, .string ⟨#[]⟩] 62)).alloc (.cells #[.string ⟨#[]⟩, .int .u64 0, .int .u32 0, .int .u64 0, .string ⟨#[]⟩] 62))
  have HT0 := Lib.hid ((Bx5.new1 w (.cells #[pv, .func (.func 303) #[] #[.pointer (some ⟨g, 0, none⟩)]] 291) (.string ⟨#[]⟩) (.int .u64 0) (.int .u32 0) (.int .u64 0) (.string ⟨#[]⟩) 62).alloc (.cells #[.string ⟨#[]⟩, .int .u64 0, .int .u32 0, .int .u64 0, .string ⟨#[]⟩] 62))
  have HZ0 := Lib.hid (Bx5.new2 w (.cells #[pv, .func (.func 303) #[] #[.pointer (some ⟨g, 0, none⟩)]] 291) (.cells #[.string ⟨#[]⟩, .int .u64 0, .int .u32 0, .int .u64 0, .string ⟨#[]⟩] 62) (.string ⟨#[]⟩) (.int .u64 0) (.int .u32 0) (.int .u64 0) (.string ⟨#[]⟩) 62)
  have HB0 := Lib.hid (below3 w (.cells #[pv, .func (.func 303) #[] #[.pointer (some ⟨g, 0, none⟩)]] 291) (.cells #[.string ⟨#[]⟩, .int .u64 0, .int .u32 0, .int .u64 0, .string ⟨#[]⟩] 62) (.cells #[.string ⟨#[]⟩, .int .u64 0, .int .u32 0, .int .u64 0, .string ⟨#[]⟩] 62))
  have HSZ := Lib.hid (size3 w (.cells #[pv, .func (.func 303) #[] #[.pointer (some ⟨g, 0, none⟩)]] 291) (.cells #[.string ⟨#[]⟩, .int .u64 0, .int .u32 0, .int .u64 0, .string ⟨#[]⟩] 62) (.cells #[.string ⟨#[]⟩, .int .u64 0, .int .u32 0, .int .u64 0, .string ⟨#[]⟩] 62))
  have HGV := Lib.hid (fun b (hb : w.heap.size ≤ b) => (((hG b hb).alloc (.cells #[pv, .func (.func 303) #[] #[.pointer (some ⟨g, 0, none⟩)]] 291)).alloc (.cells #[.string ⟨#[]⟩, .int .u64 0, .int .u32 0, .int .u64 0, .string ⟨#[]⟩] 62)).alloc (.cells #[.string ⟨#[]⟩, .int .u64 0, .int .u32 0, .int .u64 0, .string ⟨#[]⟩] 62))
  have HG := Lib.hid (fun b W (hW : Rd W b s 0) (hV : GvM W b g n c nm i) => getM_any pv b g n c nm i s 0 W hW hV)
  clear hG
  unfold readG
  revert HG
  generalize verG zM (getM nm i) s 0 = G
  obtain ⟨⟨q0, q1, q2, q3, q4⟩, r, f⟩ := G
  intro HG
  simp only at HG ⊢
  have HE := Lib.hid (fun b W (hW : Rd W b r f) => end_rd b r f W hW)
  revert HE
  generalize fin r f = y
  intro HE
  unfold aggM at HG ⊢
  simp only at HG
  by_cases hf : y = 0
  · subst hf
    rw [if_pos rfl]
    obtain ⟨b, hb⟩ : ∃ b, b = w.heap.size + 1 + 1 + 1 := ⟨_, rfl⟩
    have HBE := Lib.hid hb
    clear hb
    go_enter Tryz.func200, Tryz.ntmps200
    go_wp2_with (first
      | (go_at_call 203; refine (over_at _ b _ (by rw [HSZ.out, HBE.out])).mono ?_; rintro e w1 ⟨rfl, hr1, hb1⟩; have HC1 := Lib.hid (HC0.out.below hb1); have HT1 := Lib.hid (HT0.out.below hb1); have HGV1 := Lib.hid ((HGV.out b (by rw [HBE.out]; omega)).below hb1); have HW1 := Lib.hid (below_step HB0.out hb1); have qa := HC1.out.c0; have qb := HC1.out.c1)
      | (go_at_call 265; refine (HG.out _ _ hr1 HGV1.out).mono ?_; rintro e w2 ⟨rfl, hr2, hm2⟩; have HW2 : Hid (Below w.heap.size w (w2.alloc (.cells #[.string q0, .int .u64 q1, .int .u32 q2, .int .u64 q3, .string q4] 62))) := (HW1.out.trans (hm2.below (by rw [HBE.out]; omega) HW1.out.size)).alloc (Nat.le_trans HW1.out.size hm2.size) _; have HT2 := Lib.hid ((HT1.out.mod hm2 (by rw [HBE.out]; omega)).alloc (.cells #[.string q0, .int .u64 q1, .int .u32 q2, .int .u64 q3, .string q4] 62)))
      | (go_at_call 238; refine (HE.out _ _ (hr2.alloc _)).mono ?_; rintro e w3 ⟨rfl, rfl⟩; obtain ⟨k0, k1, k2, k3, k4, f0, f1, f2, f3, f4⟩ := HT2.out))
    obtain ⟨s0, s1, s2, s3, s4⟩ := stored5 (v0 := .string q0) (v1 := .int .u64 q1) (v2 := .int .u32 q2) (v3 := .int .u64 q3) (v4 := .string q4) k0 k1 k2 k3 k4
    exact bodyPost_ret_by (rrM rfl rfl s0 s1 s2 s3 s4) rfl ⟨rfl, HW2.out.trans (stored5_below (show w.heap.size ≤ w.heap.size + 1 by omega))⟩
  · have hf' : (y != 0) = true := by rw [bne_iff_ne]; exact hf
    rw [if_neg hf]
    obtain ⟨b, hb⟩ : ∃ b, b = w.heap.size + 1 + 1 + 1 := ⟨_, rfl⟩
    have HBE := Lib.hid hb
    clear hb
    go_enter Tryz.func200, Tryz.ntmps200
    go_wp2_with (first
      | (go_at_call 203; refine (over_at _ b _ (by rw [HSZ.out, HBE.out])).mono ?_; rintro e w1 ⟨rfl, hr1, hb1⟩; have HC1 := Lib.hid (HC0.out.below hb1); have HT1 := Lib.hid (HT0.out.below hb1); have HZ1 := Lib.hid (HZ0.out.below hb1); have HGV1 := Lib.hid ((HGV.out b (by rw [HBE.out]; omega)).below hb1); have HW1 := Lib.hid (below_step HB0.out hb1); have qa := HC1.out.c0; have qb := HC1.out.c1)
      | (go_at_call 265; refine (HG.out _ _ hr1 HGV1.out).mono ?_; rintro e w2 ⟨rfl, hr2, hm2⟩; have HW2 : Hid (Below w.heap.size w (w2.alloc (.cells #[.string q0, .int .u64 q1, .int .u32 q2, .int .u64 q3, .string q4] 62))) := (HW1.out.trans (hm2.below (by rw [HBE.out]; omega) HW1.out.size)).alloc (Nat.le_trans HW1.out.size hm2.size) _; have HT2 := Lib.hid ((HT1.out.mod hm2 (by rw [HBE.out]; omega)).alloc (.cells #[.string q0, .int .u64 q1, .int .u32 q2, .int .u64 q3, .string q4] 62)); have HZ2 := Lib.hid ((HZ1.out.mod hm2 (by rw [HBE.out]; omega)).alloc (.cells #[.string q0, .int .u64 q1, .int .u32 q2, .int .u64 q3, .string q4] 62)))
      | (go_at_call 238; refine (HE.out _ _ (hr2.alloc _)).mono ?_; rintro e w3 ⟨rfl, rfl⟩; obtain ⟨k0, k1, k2, k3, k4, f0, f1, f2, f3, f4⟩ := HT2.out; obtain ⟨z0, z1, z2, z3, z4, _, _, _, _, _⟩ := HZ2.out))
    obtain ⟨s0, s1, s2, s3, s4⟩ := stored5 (v0 := .string ⟨#[]⟩) (v1 := .int .u64 0) (v2 := .int .u32 0) (v3 := .int .u64 0) (v4 := .string ⟨#[]⟩) k0 k1 k2 k3 k4
    exact bodyPost_ret_by (rrM rfl rfl s0 s1 s2 s3 s4) rfl ⟨rfl, HW2.out.trans (stored5_below (show w.heap.size ≤ w.heap.size + 1 by omega))⟩
end Go.Proofs.YtgmneapgihakgaaGreatDoor
