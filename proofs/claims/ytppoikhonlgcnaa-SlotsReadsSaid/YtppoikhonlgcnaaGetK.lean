/- The contract of getKid: what it reads, and what it leaves. -/
import Derived.Test.YtppoikhonlgcnaaGetC
namespace Go.Proofs.Ytppoikhonlgcnaa
open Go.RowKit
open Sl (Cl Kd)
def zeroK : Kd := ⟨[], 0⟩
def gkR (s : ByteArray) (e : Int) : Kd × ByteArray × Int :=
  let K := kyR s e
  let P := tk K.2.1 K.2.2 4
  if P.2.2 ≠ 0 then (zeroK, P.2) else (⟨K.1.data.toList, Oc.val P.1.data.toList⟩, P.2)
/-- A box of a branch's cell of the call's own, empty. -/
structure Rk (w : World) (g : Nat) : Prop where
  r0 : w.cell? ⟨g, 0, none⟩ = some (.string ⟨#[]⟩)
  r1 : w.cell? ⟨g, 1, none⟩ = some (.int .u32 0)
  p0 : w.frozen? ⟨g, 0, none⟩ = false
  p1 : w.frozen? ⟨g, 1, none⟩ = false
theorem Rk.lt {w : World} {g : Nat} (h : Rk w g) : g < w.heap.size := World.block_lt_of_cell? _ _ h.r0
theorem Rk.keep {w w' : World} {g : Nat} (h : Rk w g) (h0 : w'.heap[g]? = w.heap[g]?) : Rk w' g := by
  have c := fun o => World.cell?_of_block (w := w) (w' := w') (a := ⟨g, o, none⟩) h0
  have f := fun o => World.frozen?_of_block (w := w) (w' := w') (a := ⟨g, o, none⟩) h0
  exact ⟨(c 0).trans h.r0, (c 1).trans h.r1, (f 0).trans h.p0, (f 1).trans h.p1⟩
theorem Rk.mod {w w' : World} {g b : Nat} (h : Rk w g) (m : Mod b w w') (hb : g ≠ b) : Rk w' g := h.keep (m.block g h.lt hb)
theorem Rk.alloc {w : World} {g : Nat} (h : Rk w g) (o : Obj) : Rk (w.alloc o) g := h.keep (((Below.refl (w.heap.size) w).alloc (Nat.le_refl _) o).block g h.lt)
theorem Rk.new (w : World) : Rk (w.alloc (.cells #[.string ⟨#[]⟩, .int .u32 0] 47)) w.heap.size := ⟨by simp, by simp, by simp, by simp⟩
theorem stored2 {w : World} {g : Nat} {x0 x1 v0 v1 : Value} (k0 : w.cell? ⟨g, 0, none⟩ = some x0) (k1 : w.cell? ⟨g, 1, none⟩ = some x1) :
    ((w.setCell ⟨g, 0, none⟩ v0).setCell ⟨g, 1, none⟩ v1).cell? ⟨g, 0, none⟩ = some v0 ∧ ((w.setCell ⟨g, 0, none⟩ v0).setCell ⟨g, 1, none⟩ v1).cell? ⟨g, 1, none⟩ = some v1 := by
  have a0 : (w.setCell ⟨g, 0, none⟩ v0).cell? ⟨g, 0, none⟩ = some v0 := World.cell?_setCell_same' _ _ _ (by rw [k0]; rfl)
  have a1 : (w.setCell ⟨g, 0, none⟩ v0).cell? ⟨g, 1, none⟩ = some x1 := by rw [World.cell?_setCell_other _ _ _ _ (ne_off (by decide)), k1]
  exact ⟨by rw [World.cell?_setCell_other _ _ _ _ (ne_off (by decide)), a0], World.cell?_setCell_same' _ _ _ (by rw [a1]; rfl)⟩
theorem stored2_below {w : World} {g B : Nat} {v0 v1 : Value} (hB : B ≤ g) : Below B w ((w.setCell ⟨g, 0, none⟩ v0).setCell ⟨g, 1, none⟩ v1) :=
  ((Below.refl B w).setCell (p := ⟨g, 0, none⟩) hB _).setCell (p := ⟨g, 1, none⟩) hB _
theorem res41 {w : World} {g : Nat} {v0 v1 : Value} {tmps : Array Value} (ht : tmps[2]? = some (.pointer (some ⟨g, 0, none⟩)))
    (h0 : w.cell? ⟨g, 0, none⟩ = some v0) (h1 : w.cell? ⟨g, 1, none⟩ = some v1) :
    (results Try.f41 tmps).run Try.prog w = .ok (.agg #[v0, v1]) w := by
  simp [results, Try.results41, go_sem, ht, h0, h1]
set_option maxHeartbeats 2000000 in
set_option maxRecDepth 100000 in
theorem getKid_any (b : Nat) (s : ByteArray) (e : Int) (w : World) (h : Rd w b s e) :
    Calls Try.prog 41 #[.pointer (some ⟨b, 0, none⟩)] w fun x w' => x = .returned (aggK (gkR s e).1) ∧ Rd w' b (gkR s e).2.1 (gkR s e).2.2 ∧ Mod b w w' := by
  have HR := Lib.hid h
  have HLT := Lib.hid h.lt
  have H0 := Lib.hid (Rk.new w)
  clear h
  unfold gkR
  simp only
  have HK := Lib.hid (fun W (hW : Rd W b s e) => getKey_any b s e W hW)
  revert HK
  generalize kyR s e = K
  obtain ⟨k, s1, e1⟩ := K
  intro HK
  simp only at HK ⊢
  have hvA := Nat.lt_of_lt_of_le (Oc.val_lt (tk s1 e1 4).1.data.toList) (Nat.pow_le_pow_right (by omega) (tk_size s1 e1 4))
  have HA := Lib.hid (fun W (hW : Rd W b s1 e1) => four_rd b s1 e1 W hW)
  revert HA hvA
  generalize tk s1 e1 4 = A
  obtain ⟨a, s3, e3⟩ := A
  simp only
  generalize Oc.val a.data.toList = c
  intro hvA HA
  have HNE : Hid (w.heap.size ≠ b) := fun he => by have := HLT.out; omega
  by_cases h4 : e3 = 0
  · subst h4
    rw [if_neg (by decide)]
    go_enter Try.func41, Try.ntmps41
    go_wp2_with (first
      | (go_at_call 81; refine (HK.out _ (HR.out.alloc _)).mono ?_; rintro x w1 ⟨rfl, hr1, hu1⟩; have HM1 := Lib.hid ((Mod.refl b (w.alloc (.cells #[.string ⟨#[]⟩, .int .u32 0] 47))).upd hu1))
      | (go_at_call 85; refine (HA.out _ hr1).mono ?_; rintro x w2 ⟨rfl, hr2, hu2⟩; have HM2 := Lib.hid ((HM1.out.upd hu2).alloc (.cells #[.string k, .int .u32 c] 47)); have HG := Lib.hid (H0.out.mod HM2.out HNE.out); have HR2 := Lib.hid (hr2.alloc (.cells #[.string k, .int .u32 c] 47)))
      | (go_at_call 87; refine (err_any _ _ _ _ HR2.out).mono ?_; rintro x w5 ⟨rfl, rfl⟩; have r0 := HG.out.r0; have r1 := HG.out.r1; have p0 := HG.out.p0; have p1 := HG.out.p1))
    obtain ⟨s0, s1⟩ := stored2 (v0 := .string k) (v1 := .int .u32 c) HG.out.r0 HG.out.r1
    have hbe := stored2_below (w := w2.alloc (.cells #[.string k, .int .u32 c] 47)) (v0 := .string k) (v1 := .int .u32 c) (Nat.le_refl w.heap.size)
    exact bodyPost_ret_by (res41 rfl s0 s1) rfl ⟨rfl, HR2.out.below' hbe HLT.out, HM2.out.old.step' hbe⟩
  · rw [if_pos h4]
    have hd : (e3 != 0) = true := by rw [bne_iff_ne]; exact h4
    go_enter Try.func41, Try.ntmps41
    go_wp2_with (first
      | (go_at_call 81; refine (HK.out _ (HR.out.alloc _)).mono ?_; rintro x w1 ⟨rfl, hr1, hu1⟩; have HM1 := Lib.hid ((Mod.refl b (w.alloc (.cells #[.string ⟨#[]⟩, .int .u32 0] 47))).upd hu1))
      | (go_at_call 85; refine (HA.out _ hr1).mono ?_; rintro x w2 ⟨rfl, hr2, hu2⟩; have HM2 := Lib.hid ((HM1.out.upd hu2).alloc (.cells #[.string k, .int .u32 c] 47)); have HG := Lib.hid (H0.out.mod HM2.out HNE.out); have HR2 := Lib.hid (hr2.alloc (.cells #[.string k, .int .u32 c] 47)))
      | (go_at_call 87; refine (err_any _ _ _ _ HR2.out).mono ?_; rintro x w5 ⟨rfl, rfl⟩; have r0 := HG.out.r0; have r1 := HG.out.r1; have p0 := HG.out.p0; have p1 := HG.out.p1))
    obtain ⟨s0, s1⟩ := stored2 (v0 := .string ⟨#[]⟩) (v1 := .int .u32 0) HG.out.r0 HG.out.r1
    have hbe := stored2_below (w := w2.alloc (.cells #[.string k, .int .u32 c] 47)) (v0 := .string ⟨#[]⟩) (v1 := .int .u32 0) (Nat.le_refl w.heap.size)
    exact bodyPost_ret_by (res41 rfl s0 s1) rfl ⟨rfl, HR2.out.below' hbe HLT.out, HM2.out.old.step' hbe⟩
end Go.Proofs.Ytppoikhonlgcnaa
