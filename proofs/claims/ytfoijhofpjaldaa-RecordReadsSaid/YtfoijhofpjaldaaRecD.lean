/- The contract of what reads a message. -/
import Derived.Test.YtfoijhofpjaldaaRecC
set_option maxRecDepth 100000
set_option maxHeartbeats 4000000
set_option linter.unusedVariables false
namespace Go.Proofs.Ytfoijhofpjaldaa
open Go.RowKit
set_option maxHeartbeats 4000000 in
theorem getFnM_any (b n c : Nat) (nm s : ByteArray) (i : Nat) (e : Int) (w : World) (h : Rd w b s e) (hn : w.cell? ⟨n, 0, none⟩ = some (.string nm)) (hnb : n ≠ b) (hc : w.cell? ⟨c, 0, none⟩ = some (.int .u64 i)) (hcb : c ≠ b) :
    Calls Try.prog 42 #[.pointer (some ⟨b, 0, none⟩), .pointer (some ⟨n, 0, none⟩), .pointer (some ⟨c, 0, none⟩)] w fun x w' => x = .returned (aggM (getM nm i s e).1) ∧ Rd w' b (getM nm i s e).2.1 (getM nm i s e).2.2 ∧ Mod b w w' := by
  have HLT := Lib.hid h.lt
  have HNE : Hid (w.heap.size ≠ b) := fun he => by have := HLT.out; omega
  have HR := Lib.hid (h.alloc (.cells #[.string ⟨#[]⟩, .int .u64 0, .int .u32 0, .int .u64 0, .string ⟨#[]⟩] 27))
  have HM0 := Lib.hid ((Mod.refl b (w.alloc (.cells #[.string ⟨#[]⟩, .int .u64 0, .int .u32 0, .int .u64 0, .string ⟨#[]⟩] 27))))
  have n0 : (w.alloc (.cells #[.string ⟨#[]⟩, .int .u64 0, .int .u32 0, .int .u64 0, .string ⟨#[]⟩] 27)).cell? ⟨n, 0, none⟩ = some (.string nm) := cell_alloc hn
  have c0 : (w.alloc (.cells #[.string ⟨#[]⟩, .int .u64 0, .int .u32 0, .int .u64 0, .string ⟨#[]⟩] 27)).cell? ⟨c, 0, none⟩ = some (.int .u64 i) := cell_alloc hc
  have HCB : Hid (c ≠ b) := hcb
  have HNB : Hid (n ≠ b) := hnb
  clear h hn hnb hc hcb
  unfold getM
  simp only
  have HA := Lib.hid (fun W (hW : Rd W b s e) => four_rd b s e W hW)
  revert HA
  generalize tk s e 4 = A
  intro HA
  have HB := Lib.hid (fun W (hW : Rd W b A.2.1 A.2.2) => eight_rd b A.2.1 A.2.2 W hW)
  revert HB
  generalize tk A.2.1 A.2.2 8 = B
  intro HB
  have HD := Lib.hid (fun W (hW : Rd W b B.2.1 B.2.2) => text_rd b B.2.1 B.2.2 32768 (by decide) W hW)
  revert HD
  generalize txt B.2.1 B.2.2 32768 = D
  intro HD
  go_enter Try.func42, Try.ntmps42
  go_wp2_with fail
  go_region_with (first
    | (go_at_call 37; refine (HD.out _ hr2).mono ?_; rintro x w4 ⟨rfl, hr4, hu4⟩; have n4 := Mod.cellU (u := w) hu4 n2 HNB.out; have c4 := Mod.cellU (u := w) hu4 c2 HCB.out; have hm4 := Lib.hid (hm2.out.upd hu4); obtain ⟨⟨k0, k1, k2, k3, k4⟩, f0, f1, f2, f3, f4⟩ := blk5 hm4.out HNE.out)
    | (go_at_call 36; refine (HB.out _ hr1).mono ?_; rintro x w2 ⟨rfl, hr2, hu2⟩; have n2 := Mod.cellU (u := w) hu2 n1 HNB.out; have c2 := Mod.cellU (u := w) hu2 c1 HCB.out; have hm2 := Lib.hid (hm1.out.upd hu2))
    | (go_at_call 35; refine (HA.out _ HR.out.drew).mono ?_; rintro x w1 ⟨rfl, hr1, hu1⟩; have n1 := Mod.cellU (u := w) hu1 n0 HNB.out; have c1 := Mod.cellU (u := w) hu1 c0 HCB.out; have hm1 := Lib.hid (HM0.out.drew.upd hu1)))
  all_goals
    (obtain ⟨s0, s1, s2, s3, s4⟩ := stored5 (v0 := .string nm) (v1 := .int .u64 i) (v2 := .int .u32 (Oc.val A.1.data.toList : Nat)) (v3 := .int .u64 (Oc.val B.1.data.toList : Nat)) (v4 := .string D.1) k0 k1 k2 k3 k4
     have hbe := stored5_below (w := w4) (v0 := .string nm) (v1 := .int .u64 i) (v2 := .int .u32 (Oc.val A.1.data.toList : Nat)) (v3 := .int .u64 (Oc.val B.1.data.toList : Nat)) (v4 := .string D.1) (Nat.le_refl w.heap.size)
     go_wp2
     exact bodyPost_ret_by (rcM rfl s0 s1 s2 s3 s4) rfl ⟨rfl, hr4.below' hbe HLT.out, hm4.out.old.step' hbe⟩)
end Go.Proofs.Ytfoijhofpjaldaa
