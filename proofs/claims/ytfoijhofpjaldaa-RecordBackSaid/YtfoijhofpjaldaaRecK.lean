/- The document's own reading of a queue and of a message. -/
import Derived.Test.YtfoijhofpjaldaaRecJ
set_option maxRecDepth 100000
set_option maxHeartbeats 4000000
set_option linter.unusedVariables false
namespace Go.Proofs.Ytfoijhofpjaldaa
open Go.RowKit
theorem rkQ {w : World} {g : Nat} {x0 x1 x2 x3 x4 : Value} {e : Int} {tmps : Array Value} (ht : tmps[4]? = some (.pointer (some ⟨g, 0, none⟩))) (h5 : tmps[5]? = some (.int .i64 e))
    (h0 : w.cell? ⟨g, 0, none⟩ = some x0) (h1 : w.cell? ⟨g, 1, none⟩ = some x1) (h2 : w.cell? ⟨g, 2, none⟩ = some x2) (h3 : w.cell? ⟨g, 3, none⟩ = some x3) (h4 : w.cell? ⟨g, 4, none⟩ = some x4) :
    (results Try.f18 tmps).run Try.prog w = .ok (.tuple #[.agg #[x0, x1, x2, x3, x4], .int .i64 e]) w := by
  simp [results, Try.results18, go_sem, ht, h0, h1, h2, h3, h4, h5]
theorem rkM {w : World} {g : Nat} {x0 x1 x2 x3 x4 : Value} {e : Int} {tmps : Array Value} (ht : tmps[6]? = some (.pointer (some ⟨g, 0, none⟩))) (h5 : tmps[7]? = some (.int .i64 e))
    (h0 : w.cell? ⟨g, 0, none⟩ = some x0) (h1 : w.cell? ⟨g, 1, none⟩ = some x1) (h2 : w.cell? ⟨g, 2, none⟩ = some x2) (h3 : w.cell? ⟨g, 3, none⟩ = some x3) (h4 : w.cell? ⟨g, 4, none⟩ = some x4) :
    (results Try.f20 tmps).run Try.prog w = .ok (.tuple #[.agg #[x0, x1, x2, x3, x4], .int .i64 e]) w := by
  simp [results, Try.results20, go_sem, ht, h0, h1, h2, h3, h4, h5]
set_option maxHeartbeats 4000000 in
theorem refReadQueue_any (s nm : ByteArray) (w : World) :
    Calls Try.prog 18 #[.string s, .string nm] w fun e w' => e = .returned (.tuple #[aggQ (readG zQ (getQ nm) s).1, .int .i64 (readG zQ (getQ nm) s).2]) ∧ Below w.heap.size w w' := by
  rw [← refG_eq zQ (getQ nm) (getQ_err nm) s]
  have HT0 := Lib.hid (Bx5.new w (.string ⟨#[]⟩) (.int .u32 0) (.int .u64 0) (.int .u32 0) (.string ⟨#[]⟩) 25)
  have HW0 : Hid (Below w.heap.size w (w.alloc (.cells #[.string ⟨#[]⟩, .int .u32 0, .int .u64 0, .int .u32 0, .string ⟨#[]⟩] 25))) := (Below.refl _ _).alloc (Nat.le_refl _) _
  have HSZ := Lib.hid (size1 w (.cells #[.string ⟨#[]⟩, .int .u32 0, .int .u64 0, .int .u32 0, .string ⟨#[]⟩] 25))
  have HB := Lib.hid (fun b W (hb : W.heap.size = b) => begin_at s b W hb)
  unfold refG getQ
  simp only
  revert HB
  generalize (tk s 0 1).2.1 = s1
  generalize e1 s = x1
  intro HB
  have hva := val4_lt s1 x1
  have HA := Lib.hid (fun W b (hW : Rd W b s1 x1) => num_any b s1 x1 4 (by decide) W hW)
  revert HA hva
  rw [show ((4 : Nat) : Int) = 4 from rfl]
  generalize tk s1 x1 4 = A
  intro hva HA
  have hwa := wrapU32 _ hva
  have HN := Lib.hid (fun W b (hW : Rd W b A.2.1 A.2.2) => num_any b A.2.1 A.2.2 8 (by decide) W hW)
  revert HN
  rw [show ((8 : Nat) : Int) = 8 from rfl]
  generalize tk A.2.1 A.2.2 8 = B
  intro HN
  have hvc := val4_lt B.2.1 B.2.2
  have HC := Lib.hid (fun W b (hW : Rd W b B.2.1 B.2.2) => num_any b B.2.1 B.2.2 4 (by decide) W hW)
  revert HC hvc
  rw [show ((4 : Nat) : Int) = 4 from rfl]
  generalize tk B.2.1 B.2.2 4 = C
  intro hvc HC
  have hwc := wrapU32 _ hvc
  have HX := Lib.hid (fun W b (hW : Rd W b C.2.1 C.2.2) => refText_rd b C.2.1 C.2.2 32 (by decide) W hW)
  revert HX
  generalize txt C.2.1 C.2.2 32 = D
  intro HX
  have HE := Lib.hid (fun W b (hW : Rd W b D.2.1 D.2.2) => refEnd_rd b D.2.1 D.2.2 W hW)
  revert HE
  generalize fin D.2.1 D.2.2 = y
  intro HE
  revert HA hwa hva
  generalize Oc.val A.1.data.toList = va
  intro hva HA hwa
  revert HN
  generalize Oc.val B.1.data.toList = vb
  intro HN
  revert HC hwc hvc
  generalize Oc.val C.1.data.toList = vc
  intro hvc HC hwc
  unfold aggQ
  obtain ⟨b, hb⟩ : ∃ b, w.heap.size + 1 = b := ⟨_, rfl⟩
  have HBE := Lib.hid hb
  clear hb
  by_cases hf : y = 0
  · subst hf
    rw [if_pos rfl]
    simp only
    go_enter Try.func18, Try.ntmps18
    go_wp2_with (first
      | (go_at_call 59; refine (HE.out _ _ (hr4.set HNB.out)).mono ?_; rintro x w9 ⟨rfl, rfl⟩; obtain ⟨k0, k1, k2, k3, k4, f0, f1, f2, f3, f4⟩ := HTZ.out; obtain ⟨g0, g1, g2, g3, g4, _, _, _, _, _⟩ := HFZ.out)
      | (go_at_call 58; refine (HX.out _ _ (hr3.set HNB.out)).mono ?_; rintro x v4 ⟨rfl, hr4, hu4⟩; have HTZ := Lib.hid (((HTc.out).upd hu4 HNT.out).other (g := w.heap.size) (k := w1.heap.size) (j := 4) (v := .string D.1) HNG.out); have HFZ := Lib.hid (((HFc.out).upd hu4 HNB.out.symm).set4 (v := .string D.1)); have HWZ : Hid (Below w.heap.size w (v4.setCell ⟨w1.heap.size, 4, none⟩ (.string D.1))) := Below.setCell ((HWc.out).trans (hu4.below (B := w.heap.size) (by have := HBE.out; omega))) HLG.out _; have ff4 := ((HFc.out).upd hu4 HNB.out.symm).f4; have fc4 := ((HFc.out).upd hu4 HNB.out.symm).c4)
      | (go_at_call_of 57 (Value.int IntKind.i64 4); refine (HC.out _ _ (hr2.set HNB.out)).mono ?_; rintro x v3 ⟨rfl, hr3, hu3⟩; have HTc := Lib.hid (((HTb.out).upd hu3 HNT.out).other (g := w.heap.size) (k := w1.heap.size) (j := 3) (v := .int .u32 vc) HNG.out); have HFc := Lib.hid (((HFb.out).upd hu3 HNB.out.symm).set3 (v := .int .u32 vc)); have HWc : Hid (Below w.heap.size w (v3.setCell ⟨w1.heap.size, 3, none⟩ (.int .u32 vc))) := Below.setCell ((HWb.out).trans (hu3.below (B := w.heap.size) (by have := HBE.out; omega))) HLG.out _; have ff3 := ((HFb.out).upd hu3 HNB.out.symm).f3; have fc3 := ((HFb.out).upd hu3 HNB.out.symm).c3)
      | (go_at_call_of 57 (Value.int IntKind.i64 8); refine (HN.out _ _ (hr1.set HNB.out)).mono ?_; rintro x v2 ⟨rfl, hr2, hu2⟩; have HTb := Lib.hid (((HTa.out).upd hu2 HNT.out).other (g := w.heap.size) (k := w1.heap.size) (j := 2) (v := .int .u64 vb) HNG.out); have HFb := Lib.hid (((HFa.out).upd hu2 HNB.out.symm).set2 (v := .int .u64 vb)); have HWb : Hid (Below w.heap.size w (v2.setCell ⟨w1.heap.size, 2, none⟩ (.int .u64 vb))) := Below.setCell ((HWa.out).trans (hu2.below (B := w.heap.size) (by have := HBE.out; omega))) HLG.out _; have ff2 := ((HFa.out).upd hu2 HNB.out.symm).f2; have fc2 := ((HFa.out).upd hu2 HNB.out.symm).c2)
      | (go_at_call_of 57 (Value.int IntKind.i64 4); refine (HA.out _ _ (hr0.alloc (.cells #[.string nm, .int .u32 0, .int .u64 0, .int .u32 0, .string ⟨#[]⟩] 25))).mono ?_; rintro x v1 ⟨rfl, hr1, hu1⟩; have HTa := Lib.hid (((HT1.out.alloc (.cells #[.string nm, .int .u32 0, .int .u64 0, .int .u32 0, .string ⟨#[]⟩] 25)).upd hu1 HNT.out).other (g := w.heap.size) (k := w1.heap.size) (j := 1) (v := .int .u32 va) HNG.out); have HFa := Lib.hid (((Bx5.new w1 (.string nm) (.int .u32 0) (.int .u64 0) (.int .u32 0) (.string ⟨#[]⟩) 25).upd hu1 HNB.out.symm).set1 (v := .int .u32 va)); have HWa : Hid (Below w.heap.size w (v1.setCell ⟨w1.heap.size, 1, none⟩ (.int .u32 va))) := Below.setCell ((HW1.out.alloc HW1.out.size (.cells #[.string nm, .int .u32 0, .int .u64 0, .int .u32 0, .string ⟨#[]⟩] 25)).trans (hu1.below (B := w.heap.size) (by have := HBE.out; omega))) HLG.out _; have ff1 := ((Bx5.new w1 (.string nm) (.int .u32 0) (.int .u64 0) (.int .u32 0) (.string ⟨#[]⟩) 25).upd hu1 HNB.out.symm).f1; have fc1 := ((Bx5.new w1 (.string nm) (.int .u32 0) (.int .u64 0) (.int .u32 0) (.string ⟨#[]⟩) 25).upd hu1 HNB.out.symm).c1)
      | (go_at_call 56; refine (HB.out b _ (by rw [HSZ.out, HBE.out])).mono ?_; rintro x w1 ⟨rfl, hr0, hb1⟩; have HT1 := Lib.hid (HT0.out.below hb1); have HW1 := Lib.hid (below_step HW0.out hb1); have HNB : Hid (b ≠ w1.heap.size) := Nat.ne_of_lt hr0.lt; have HNT : Hid (w.heap.size ≠ b) := (fun he => by have := HBE.out; omega); have HNG : Hid (w.heap.size ≠ w1.heap.size) := Nat.ne_of_lt HT1.out.lt; have HLG : Hid (w.heap.size ≤ w1.heap.size) := Nat.le_of_lt HT1.out.lt))
    obtain ⟨s0, s1, s2, s3, s4⟩ := stored5 (v0 := .string nm) (v1 := .int .u32 va) (v2 := .int .u64 vb) (v3 := .int .u32 vc) (v4 := .string D.1) k0 k1 k2 k3 k4
    exact bodyPost_ret_by (rkQ rfl rfl s0 s1 s2 s3 s4) rfl ⟨rfl, HWZ.out.trans (stored5_below (Nat.le_refl _))⟩
  · have hf' : (y != 0) = true := by rw [bne_iff_ne]; exact hf
    rw [if_neg hf]
    go_enter Try.func18, Try.ntmps18
    go_wp2_with (first
      | (go_at_call 59; refine (HE.out _ _ (hr4.set HNB.out)).mono ?_; rintro x w9 ⟨rfl, rfl⟩; obtain ⟨k0, k1, k2, k3, k4, f0, f1, f2, f3, f4⟩ := HTZ.out; obtain ⟨g0, g1, g2, g3, g4, _, _, _, _, _⟩ := HFZ.out)
      | (go_at_call 58; refine (HX.out _ _ (hr3.set HNB.out)).mono ?_; rintro x v4 ⟨rfl, hr4, hu4⟩; have HTZ := Lib.hid (((HTc.out).upd hu4 HNT.out).other (g := w.heap.size) (k := w1.heap.size) (j := 4) (v := .string D.1) HNG.out); have HFZ := Lib.hid (((HFc.out).upd hu4 HNB.out.symm).set4 (v := .string D.1)); have HWZ : Hid (Below w.heap.size w (v4.setCell ⟨w1.heap.size, 4, none⟩ (.string D.1))) := Below.setCell ((HWc.out).trans (hu4.below (B := w.heap.size) (by have := HBE.out; omega))) HLG.out _; have ff4 := ((HFc.out).upd hu4 HNB.out.symm).f4; have fc4 := ((HFc.out).upd hu4 HNB.out.symm).c4)
      | (go_at_call_of 57 (Value.int IntKind.i64 4); refine (HC.out _ _ (hr2.set HNB.out)).mono ?_; rintro x v3 ⟨rfl, hr3, hu3⟩; have HTc := Lib.hid (((HTb.out).upd hu3 HNT.out).other (g := w.heap.size) (k := w1.heap.size) (j := 3) (v := .int .u32 vc) HNG.out); have HFc := Lib.hid (((HFb.out).upd hu3 HNB.out.symm).set3 (v := .int .u32 vc)); have HWc : Hid (Below w.heap.size w (v3.setCell ⟨w1.heap.size, 3, none⟩ (.int .u32 vc))) := Below.setCell ((HWb.out).trans (hu3.below (B := w.heap.size) (by have := HBE.out; omega))) HLG.out _; have ff3 := ((HFb.out).upd hu3 HNB.out.symm).f3; have fc3 := ((HFb.out).upd hu3 HNB.out.symm).c3)
      | (go_at_call_of 57 (Value.int IntKind.i64 8); refine (HN.out _ _ (hr1.set HNB.out)).mono ?_; rintro x v2 ⟨rfl, hr2, hu2⟩; have HTb := Lib.hid (((HTa.out).upd hu2 HNT.out).other (g := w.heap.size) (k := w1.heap.size) (j := 2) (v := .int .u64 vb) HNG.out); have HFb := Lib.hid (((HFa.out).upd hu2 HNB.out.symm).set2 (v := .int .u64 vb)); have HWb : Hid (Below w.heap.size w (v2.setCell ⟨w1.heap.size, 2, none⟩ (.int .u64 vb))) := Below.setCell ((HWa.out).trans (hu2.below (B := w.heap.size) (by have := HBE.out; omega))) HLG.out _; have ff2 := ((HFa.out).upd hu2 HNB.out.symm).f2; have fc2 := ((HFa.out).upd hu2 HNB.out.symm).c2)
      | (go_at_call_of 57 (Value.int IntKind.i64 4); refine (HA.out _ _ (hr0.alloc (.cells #[.string nm, .int .u32 0, .int .u64 0, .int .u32 0, .string ⟨#[]⟩] 25))).mono ?_; rintro x v1 ⟨rfl, hr1, hu1⟩; have HTa := Lib.hid (((HT1.out.alloc (.cells #[.string nm, .int .u32 0, .int .u64 0, .int .u32 0, .string ⟨#[]⟩] 25)).upd hu1 HNT.out).other (g := w.heap.size) (k := w1.heap.size) (j := 1) (v := .int .u32 va) HNG.out); have HFa := Lib.hid (((Bx5.new w1 (.string nm) (.int .u32 0) (.int .u64 0) (.int .u32 0) (.string ⟨#[]⟩) 25).upd hu1 HNB.out.symm).set1 (v := .int .u32 va)); have HWa : Hid (Below w.heap.size w (v1.setCell ⟨w1.heap.size, 1, none⟩ (.int .u32 va))) := Below.setCell ((HW1.out.alloc HW1.out.size (.cells #[.string nm, .int .u32 0, .int .u64 0, .int .u32 0, .string ⟨#[]⟩] 25)).trans (hu1.below (B := w.heap.size) (by have := HBE.out; omega))) HLG.out _; have ff1 := ((Bx5.new w1 (.string nm) (.int .u32 0) (.int .u64 0) (.int .u32 0) (.string ⟨#[]⟩) 25).upd hu1 HNB.out.symm).f1; have fc1 := ((Bx5.new w1 (.string nm) (.int .u32 0) (.int .u64 0) (.int .u32 0) (.string ⟨#[]⟩) 25).upd hu1 HNB.out.symm).c1)
      | (go_at_call 56; refine (HB.out b _ (by rw [HSZ.out, HBE.out])).mono ?_; rintro x w1 ⟨rfl, hr0, hb1⟩; have HT1 := Lib.hid (HT0.out.below hb1); have HW1 := Lib.hid (below_step HW0.out hb1); have HNB : Hid (b ≠ w1.heap.size) := Nat.ne_of_lt hr0.lt; have HNT : Hid (w.heap.size ≠ b) := (fun he => by have := HBE.out; omega); have HNG : Hid (w.heap.size ≠ w1.heap.size) := Nat.ne_of_lt HT1.out.lt; have HLG : Hid (w.heap.size ≤ w1.heap.size) := Nat.le_of_lt HT1.out.lt))
    obtain ⟨s0, s1, s2, s3, s4⟩ := stored5 (v0 := .string ⟨#[]⟩) (v1 := .int .u32 0) (v2 := .int .u64 0) (v3 := .int .u32 0) (v4 := .string ⟨#[]⟩) k0 k1 k2 k3 k4
    exact bodyPost_ret_by (rkQ rfl rfl s0 s1 s2 s3 s4) rfl ⟨rfl, HWZ.out.trans (stored5_below (Nat.le_refl _))⟩
set_option maxHeartbeats 4000000 in
theorem refReadMessage_any (s nm : ByteArray) (i : Nat) (w : World) :
    Calls Try.prog 20 #[.string s, .string nm, .int .u64 i] w fun e w' => e = .returned (.tuple #[aggM (readG zM (getM nm i) s).1, .int .i64 (readG zM (getM nm i) s).2]) ∧ Below w.heap.size w w' := by
  rw [← refG_eq zM (getM nm i) (getM_err nm i) s]
  have HT0 := Lib.hid (Bx5.new w (.string ⟨#[]⟩) (.int .u64 0) (.int .u32 0) (.int .u64 0) (.string ⟨#[]⟩) 27)
  have HW0 : Hid (Below w.heap.size w (w.alloc (.cells #[.string ⟨#[]⟩, .int .u64 0, .int .u32 0, .int .u64 0, .string ⟨#[]⟩] 27))) := (Below.refl _ _).alloc (Nat.le_refl _) _
  have HSZ := Lib.hid (size1 w (.cells #[.string ⟨#[]⟩, .int .u64 0, .int .u32 0, .int .u64 0, .string ⟨#[]⟩] 27))
  have HB := Lib.hid (fun b W (hb : W.heap.size = b) => begin_at s b W hb)
  unfold refG getM
  simp only
  revert HB
  generalize (tk s 0 1).2.1 = s1
  generalize e1 s = x1
  intro HB
  have hva := val4_lt s1 x1
  have HA := Lib.hid (fun W b (hW : Rd W b s1 x1) => num_any b s1 x1 4 (by decide) W hW)
  revert HA hva
  rw [show ((4 : Nat) : Int) = 4 from rfl]
  generalize tk s1 x1 4 = A
  intro hva HA
  have hwa := wrapU32 _ hva
  have HN := Lib.hid (fun W b (hW : Rd W b A.2.1 A.2.2) => num_any b A.2.1 A.2.2 8 (by decide) W hW)
  revert HN
  rw [show ((8 : Nat) : Int) = 8 from rfl]
  generalize tk A.2.1 A.2.2 8 = B
  intro HN
  have HX := Lib.hid (fun W b (hW : Rd W b B.2.1 B.2.2) => refText_rd b B.2.1 B.2.2 32768 (by decide) W hW)
  revert HX
  generalize txt B.2.1 B.2.2 32768 = D
  intro HX
  have HE := Lib.hid (fun W b (hW : Rd W b D.2.1 D.2.2) => refEnd_rd b D.2.1 D.2.2 W hW)
  revert HE
  generalize fin D.2.1 D.2.2 = y
  intro HE
  revert HA hwa hva
  generalize Oc.val A.1.data.toList = va
  intro hva HA hwa
  revert HN
  generalize Oc.val B.1.data.toList = vb
  intro HN
  unfold aggM
  obtain ⟨b, hb⟩ : ∃ b, w.heap.size + 1 = b := ⟨_, rfl⟩
  have HBE := Lib.hid hb
  clear hb
  by_cases hf : y = 0
  · subst hf
    rw [if_pos rfl]
    simp only
    go_enter Try.func20, Try.ntmps20
    go_wp2_with (first
      | (go_at_call 59; refine (HE.out _ _ (hr3.set HNB.out)).mono ?_; rintro x w9 ⟨rfl, rfl⟩; obtain ⟨k0, k1, k2, k3, k4, f0, f1, f2, f3, f4⟩ := HTZ.out; obtain ⟨g0, g1, g2, g3, g4, _, _, _, _, _⟩ := HFZ.out)
      | (go_at_call 58; refine (HX.out _ _ (hr2.set HNB.out)).mono ?_; rintro x v3 ⟨rfl, hr3, hu3⟩; have HTZ := Lib.hid (((HTb.out).upd hu3 HNT.out).other (g := w.heap.size) (k := w1.heap.size) (j := 4) (v := .string D.1) HNG.out); have HFZ := Lib.hid (((HFb.out).upd hu3 HNB.out.symm).set4 (v := .string D.1)); have HWZ : Hid (Below w.heap.size w (v3.setCell ⟨w1.heap.size, 4, none⟩ (.string D.1))) := Below.setCell ((HWb.out).trans (hu3.below (B := w.heap.size) (by have := HBE.out; omega))) HLG.out _; have ff4 := ((HFb.out).upd hu3 HNB.out.symm).f4; have fc4 := ((HFb.out).upd hu3 HNB.out.symm).c4)
      | (go_at_call_of 57 (Value.int IntKind.i64 8); refine (HN.out _ _ (hr1.set HNB.out)).mono ?_; rintro x v2 ⟨rfl, hr2, hu2⟩; have HTb := Lib.hid (((HTa.out).upd hu2 HNT.out).other (g := w.heap.size) (k := w1.heap.size) (j := 3) (v := .int .u64 vb) HNG.out); have HFb := Lib.hid (((HFa.out).upd hu2 HNB.out.symm).set3 (v := .int .u64 vb)); have HWb : Hid (Below w.heap.size w (v2.setCell ⟨w1.heap.size, 3, none⟩ (.int .u64 vb))) := Below.setCell ((HWa.out).trans (hu2.below (B := w.heap.size) (by have := HBE.out; omega))) HLG.out _; have ff3 := ((HFa.out).upd hu2 HNB.out.symm).f3; have fc3 := ((HFa.out).upd hu2 HNB.out.symm).c3)
      | (go_at_call_of 57 (Value.int IntKind.i64 4); refine (HA.out _ _ (hr0.alloc (.cells #[.string nm, .int .u64 i, .int .u32 0, .int .u64 0, .string ⟨#[]⟩] 27))).mono ?_; rintro x v1 ⟨rfl, hr1, hu1⟩; have HTa := Lib.hid (((HT1.out.alloc (.cells #[.string nm, .int .u64 i, .int .u32 0, .int .u64 0, .string ⟨#[]⟩] 27)).upd hu1 HNT.out).other (g := w.heap.size) (k := w1.heap.size) (j := 2) (v := .int .u32 va) HNG.out); have HFa := Lib.hid (((Bx5.new w1 (.string nm) (.int .u64 i) (.int .u32 0) (.int .u64 0) (.string ⟨#[]⟩) 27).upd hu1 HNB.out.symm).set2 (v := .int .u32 va)); have HWa : Hid (Below w.heap.size w (v1.setCell ⟨w1.heap.size, 2, none⟩ (.int .u32 va))) := Below.setCell ((HW1.out.alloc HW1.out.size (.cells #[.string nm, .int .u64 i, .int .u32 0, .int .u64 0, .string ⟨#[]⟩] 27)).trans (hu1.below (B := w.heap.size) (by have := HBE.out; omega))) HLG.out _; have ff2 := ((Bx5.new w1 (.string nm) (.int .u64 i) (.int .u32 0) (.int .u64 0) (.string ⟨#[]⟩) 27).upd hu1 HNB.out.symm).f2; have fc2 := ((Bx5.new w1 (.string nm) (.int .u64 i) (.int .u32 0) (.int .u64 0) (.string ⟨#[]⟩) 27).upd hu1 HNB.out.symm).c2)
      | (go_at_call 56; refine (HB.out b _ (by rw [HSZ.out, HBE.out])).mono ?_; rintro x w1 ⟨rfl, hr0, hb1⟩; have HT1 := Lib.hid (HT0.out.below hb1); have HW1 := Lib.hid (below_step HW0.out hb1); have HNB : Hid (b ≠ w1.heap.size) := Nat.ne_of_lt hr0.lt; have HNT : Hid (w.heap.size ≠ b) := (fun he => by have := HBE.out; omega); have HNG : Hid (w.heap.size ≠ w1.heap.size) := Nat.ne_of_lt HT1.out.lt; have HLG : Hid (w.heap.size ≤ w1.heap.size) := Nat.le_of_lt HT1.out.lt))
    obtain ⟨s0, s1, s2, s3, s4⟩ := stored5 (v0 := .string nm) (v1 := .int .u64 i) (v2 := .int .u32 va) (v3 := .int .u64 vb) (v4 := .string D.1) k0 k1 k2 k3 k4
    exact bodyPost_ret_by (rkM rfl rfl s0 s1 s2 s3 s4) rfl ⟨rfl, HWZ.out.trans (stored5_below (Nat.le_refl _))⟩
  · have hf' : (y != 0) = true := by rw [bne_iff_ne]; exact hf
    rw [if_neg hf]
    go_enter Try.func20, Try.ntmps20
    go_wp2_with (first
      | (go_at_call 59; refine (HE.out _ _ (hr3.set HNB.out)).mono ?_; rintro x w9 ⟨rfl, rfl⟩; obtain ⟨k0, k1, k2, k3, k4, f0, f1, f2, f3, f4⟩ := HTZ.out; obtain ⟨g0, g1, g2, g3, g4, _, _, _, _, _⟩ := HFZ.out)
      | (go_at_call 58; refine (HX.out _ _ (hr2.set HNB.out)).mono ?_; rintro x v3 ⟨rfl, hr3, hu3⟩; have HTZ := Lib.hid (((HTb.out).upd hu3 HNT.out).other (g := w.heap.size) (k := w1.heap.size) (j := 4) (v := .string D.1) HNG.out); have HFZ := Lib.hid (((HFb.out).upd hu3 HNB.out.symm).set4 (v := .string D.1)); have HWZ : Hid (Below w.heap.size w (v3.setCell ⟨w1.heap.size, 4, none⟩ (.string D.1))) := Below.setCell ((HWb.out).trans (hu3.below (B := w.heap.size) (by have := HBE.out; omega))) HLG.out _; have ff4 := ((HFb.out).upd hu3 HNB.out.symm).f4; have fc4 := ((HFb.out).upd hu3 HNB.out.symm).c4)
      | (go_at_call_of 57 (Value.int IntKind.i64 8); refine (HN.out _ _ (hr1.set HNB.out)).mono ?_; rintro x v2 ⟨rfl, hr2, hu2⟩; have HTb := Lib.hid (((HTa.out).upd hu2 HNT.out).other (g := w.heap.size) (k := w1.heap.size) (j := 3) (v := .int .u64 vb) HNG.out); have HFb := Lib.hid (((HFa.out).upd hu2 HNB.out.symm).set3 (v := .int .u64 vb)); have HWb : Hid (Below w.heap.size w (v2.setCell ⟨w1.heap.size, 3, none⟩ (.int .u64 vb))) := Below.setCell ((HWa.out).trans (hu2.below (B := w.heap.size) (by have := HBE.out; omega))) HLG.out _; have ff3 := ((HFa.out).upd hu2 HNB.out.symm).f3; have fc3 := ((HFa.out).upd hu2 HNB.out.symm).c3)
      | (go_at_call_of 57 (Value.int IntKind.i64 4); refine (HA.out _ _ (hr0.alloc (.cells #[.string nm, .int .u64 i, .int .u32 0, .int .u64 0, .string ⟨#[]⟩] 27))).mono ?_; rintro x v1 ⟨rfl, hr1, hu1⟩; have HTa := Lib.hid (((HT1.out.alloc (.cells #[.string nm, .int .u64 i, .int .u32 0, .int .u64 0, .string ⟨#[]⟩] 27)).upd hu1 HNT.out).other (g := w.heap.size) (k := w1.heap.size) (j := 2) (v := .int .u32 va) HNG.out); have HFa := Lib.hid (((Bx5.new w1 (.string nm) (.int .u64 i) (.int .u32 0) (.int .u64 0) (.string ⟨#[]⟩) 27).upd hu1 HNB.out.symm).set2 (v := .int .u32 va)); have HWa : Hid (Below w.heap.size w (v1.setCell ⟨w1.heap.size, 2, none⟩ (.int .u32 va))) := Below.setCell ((HW1.out.alloc HW1.out.size (.cells #[.string nm, .int .u64 i, .int .u32 0, .int .u64 0, .string ⟨#[]⟩] 27)).trans (hu1.below (B := w.heap.size) (by have := HBE.out; omega))) HLG.out _; have ff2 := ((Bx5.new w1 (.string nm) (.int .u64 i) (.int .u32 0) (.int .u64 0) (.string ⟨#[]⟩) 27).upd hu1 HNB.out.symm).f2; have fc2 := ((Bx5.new w1 (.string nm) (.int .u64 i) (.int .u32 0) (.int .u64 0) (.string ⟨#[]⟩) 27).upd hu1 HNB.out.symm).c2)
      | (go_at_call 56; refine (HB.out b _ (by rw [HSZ.out, HBE.out])).mono ?_; rintro x w1 ⟨rfl, hr0, hb1⟩; have HT1 := Lib.hid (HT0.out.below hb1); have HW1 := Lib.hid (below_step HW0.out hb1); have HNB : Hid (b ≠ w1.heap.size) := Nat.ne_of_lt hr0.lt; have HNT : Hid (w.heap.size ≠ b) := (fun he => by have := HBE.out; omega); have HNG : Hid (w.heap.size ≠ w1.heap.size) := Nat.ne_of_lt HT1.out.lt; have HLG : Hid (w.heap.size ≤ w1.heap.size) := Nat.le_of_lt HT1.out.lt))
    obtain ⟨s0, s1, s2, s3, s4⟩ := stored5 (v0 := .string ⟨#[]⟩) (v1 := .int .u64 0) (v2 := .int .u32 0) (v3 := .int .u64 0) (v4 := .string ⟨#[]⟩) k0 k1 k2 k3 k4
    exact bodyPost_ret_by (rkM rfl rfl s0 s1 s2 s3 s4) rfl ⟨rfl, HWZ.out.trans (stored5_below (Nat.le_refl _))⟩
end Go.Proofs.Ytfoijhofpjaldaa
