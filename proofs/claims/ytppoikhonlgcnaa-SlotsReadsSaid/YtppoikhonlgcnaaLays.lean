/- The walk of the law SlotsLays. -/
import Derived.Test.YtppoikhonlgcnaaAwake
import Derived.Test.YtppoikhonlgcnaaSMath3
import Derived.Test.YtppoikhonlgcnaaSteps2
import Derived.Deep.DeepCutAuto
import Derived.Deep.RegionHeld3
namespace Go.Proofs.Ytppoikhonlgcnaa
open Go.RowKit
open Sl (Cl Kd)
theorem toK_ok (l : List Cl) (hl : ∀ x ∈ l, okC x) : ∀ x ∈ l.map toK, okK x := by
  intro x hx
  obtain ⟨y, hy, rfl⟩ := List.mem_map.1 hx
  exact (hl y hy).1
theorem toC_ok (l : List Kd) (hl : ∀ x ∈ l, okK x) : ∀ x ∈ l.map toC, okC x ∧ x.val.length ≤ 60000 := by
  intro x hx
  obtain ⟨y, hy, rfl⟩ := List.mem_map.1 hx
  exact ⟨⟨hl y hy, show 0 < 4294967296 by decide⟩, show ([] : List UInt8).length ≤ 60000 by decide⟩
def boxC : Obj := .cells #[.func (.func 33) #[] #[], .func (.func 34) #[] #[], .func (.func 35) #[] #[], .func (.func 36) #[] #[]] 29
def boxK : Obj := .cells #[.func (.func 38) #[] #[], .func (.func 41) #[] #[], .func (.func 42) #[] #[], .nilFunc] 35
theorem twoBoxes (w : World) : BxC ((w.alloc boxC).alloc boxK) w.heap.size ∧ BxK ((w.alloc boxC).alloc boxK) (w.heap.size + 1) ∧ Below w.heap.size w ((w.alloc boxC).alloc boxK) := by
  refine ⟨(BxC.new w).alloc _, ?_, ((Below.refl _ _).alloc (Nat.le_refl _) _).alloc (by simp) _⟩
  have := BxK.new (w.alloc boxC)
  rwa [show (w.alloc boxC).heap.size = w.heap.size + 1 by simp] at this
set_option maxHeartbeats 4000000 in
set_option maxRecDepth 100000 in
theorem lays_walk (v : Value) (l : List Cl) (hm : l.length ≤ maxLen) (hl : ∀ x ∈ l, okC x) (w : World) (hv : SlC w v l) :
    Calls Try.prog 3 #[v] w fun e w' => e = .returned (.bool true) ∧ Below w.heap.size w w' := by
  have HVB : Hid (∀ W, Below w.heap.size w W → SlC W v l) := fun W hW => hv.below hW
  have HF := Lib.hid (fun W hW => few_any v l hm W hW)
  go_enter Try.func3, Try.ntmps3
  go_wp2_with (first
    | (go_at_call 7; refine (awake_any _).mono ?_; rintro e w1 ⟨rfl, hb1⟩)
    | (go_at_call 8; refine (HF.out _ (HVB.out _ hb1)).mono ?_))
  rintro e w2 (⟨rfl, hfew, hb2⟩ | ⟨rfl, hb2⟩)
  · have HB2 := Lib.hid (below_step hb1 hb2)
    obtain ⟨hlen, hsm⟩ := hfew
    have hl1 : l.length ≤ 100000 := by omega
    have HC1 := Lib.hid (fun W (hW : SlC W v l) => bodyC_any v l hl1 hl W hW)
    have HR1 := Lib.hid (fun W (hW : SlC W v l) => refBody_any true v l hl1 (fun x hx => ⟨hl x hx, by have := (hsm x hx).2; omega⟩) W hW)
    have HS1 := Lib.hid (fun W (hW : SlC W v l) => sumC_any v l hl1 hl W hW)
    have HT1 := Lib.hid (fun W (hW : SlC W v l) => refSum_any true v l hl1 (fun x hx => ⟨hl x hx, by have := (hsm x hx).2; omega⟩) W hW)
    have HKO := Lib.hid (fun W (hW : SlC W v l) => kidsOf_any v l hl1 W hW)
    have HBO := Lib.hid (fun W (hW : SlC W v l) => bareOf_any v l hl1 W hW)
    have hkl : (l.map toK).length ≤ 100000 := by rw [List.length_map]; exact hl1
    have hcl : ((l.map toK).map toC).length ≤ 100000 := by rw [List.length_map]; exact hkl
    have HC2 := Lib.hid (fun u W (hW : SlK W u (l.map toK)) => bodyK_any u (l.map toK) hkl (toK_ok l hl) W hW)
    have HR2 := Lib.hid (fun u W (hW : SlC W u ((l.map toK).map toC)) => refBody_any false u ((l.map toK).map toC) hcl (toC_ok _ (toK_ok l hl)) W hW)
    have HS2 := Lib.hid (fun u W (hW : SlK W u (l.map toK)) => sumK_any u (l.map toK) hkl (toK_ok l hl) W hW)
    have HT2 := Lib.hid (fun u W (hW : SlC W u ((l.map toK).map toC)) => refSum_any false u ((l.map toK).map toC) hcl (toC_ok _ (toK_ok l hl)) W hW)
    rw [Sl.shR_true] at HR1 HT1
    rw [Sl.bare_body] at HR2
    rw [Sl.bare_sum] at HT2
    clear hl1 hkl hcl hsm hlen hl hb1 hb2 HF hm
    revert HC1 HR1 HS1 HT1 HC2 HR2 HS2 HT2
    generalize Sl.bodyR Sl.shC l = A
    generalize Sl.sum Sl.shC l = a
    generalize Sl.bodyR Sl.shK (l.map toK) = B
    generalize Sl.sum Sl.shK (l.map toK) = b
    obtain ⟨A1, A2⟩ := A
    obtain ⟨B1, B2⟩ := B
    simp only
    intro HC1 HR1 HS1 HT1 HC2 HR2 HS2 HT2
    have HL := Lib.hid (fun W => leaves_any W)
    have HK := Lib.hid (fun W => kids_any W)
    unfold shpC at HL HC1 HS1
    unfold shpK at HK HC2 HS2
    go_upto_region 6 with (first
      | (go_at_call 9; refine (HL.out _).mono ?_; rintro e w3 ⟨rfl, hb3⟩)
      | (go_at_call 10; refine (HK.out _).mono ?_; rintro e w4 ⟨rfl, hb4⟩))
    have HT := Lib.hid (twoBoxes w4)
    unfold boxC boxK at HT
    have HW5 : Hid (Below w.heap.size w ((w4.alloc (.cells #[.func (.func 33) #[] #[], .func (.func 34) #[] #[], .func (.func 35) #[] #[], .func (.func 36) #[] #[]] 29)).alloc (.cells #[.func (.func 38) #[] #[], .func (.func 41) #[] #[], .func (.func 42) #[] #[], .nilFunc] 35))) := below_step (below_step (below_step HB2.out hb3) hb4) HT.out.2.2
    clear hb3 hb4 HL HK
    revert HT HW5
    generalize ((w4.alloc (.cells #[.func (.func 33) #[] #[], .func (.func 34) #[] #[], .func (.func 35) #[] #[], .func (.func 36) #[] #[]] 29)).alloc (.cells #[.func (.func 38) #[] #[], .func (.func 41) #[] #[], .func (.func 42) #[] #[], .nilFunc] 35)) = w5
    generalize w4.heap.size = p
    intro HT HW5
    have HRC := Lib.hid HT.out.1
    have HRK := Lib.hid HT.out.2.1
    clear HT
    have q0 := HRC.out.c0
    have q1 := HRC.out.c1
    have q2 := HRC.out.c2
    have q3 := HRC.out.c3
    go_upto_region 8 with (first
      | (go_at_call 11; refine (HC1.out _ (HVB.out _ HW5.out)).mono ?_; rintro e w6 ⟨rfl, hb6⟩; have HW6 := Lib.hid (below_step HW5.out hb6))
      | (go_at_call 12; refine (HR1.out _ (HVB.out _ HW6.out)).mono ?_; rintro e w7 ⟨rfl, hb7⟩; have HW7 := Lib.hid (below_step HW6.out hb7)))
    have HRC7 := Lib.hid ((HRC.out.below hb6 HRC.out.lt).below hb7 (HRC.out.below hb6 HRC.out.lt).lt)
    have HRK7 := Lib.hid ((HRK.out.below hb6 HRK.out.lt).below hb7 (HRK.out.below hb6 HRK.out.lt).lt)
    have hF : Hid (w7.drew.cell? ⟨p, 0, none⟩ = some (.func (.func 33) #[] #[]) ∧ w7.drew.cell? ⟨p, 1, none⟩ = some (.func (.func 34) #[] #[]) ∧ w7.drew.cell? ⟨p, 2, none⟩ = some (.func (.func 35) #[] #[]) ∧ w7.drew.cell? ⟨p, 3, none⟩ = some (.func (.func 36) #[] #[]) ∧ w7.drew.cell? ⟨p + 1, 0, none⟩ = some (.func (.func 38) #[] #[]) ∧ w7.drew.cell? ⟨p + 1, 1, none⟩ = some (.func (.func 41) #[] #[]) ∧ w7.drew.cell? ⟨p + 1, 2, none⟩ = some (.func (.func 42) #[] #[]) ∧ w7.drew.cell? ⟨p + 1, 3, none⟩ = some (.nilFunc) ∧ Below w.heap.size w w7.drew) := ⟨HRC7.out.c0, HRC7.out.c1, HRC7.out.c2, HRC7.out.c3, HRK7.out.c0, HRK7.out.c1, HRK7.out.c2, HRK7.out.c3, HW7.out.drew⟩
    clear q0 q1 q2 q3 hb6 hb7 HC1 HR1
    go_region_held3 (fun w' => w'.cell? ⟨p, 0, none⟩ = some (.func (.func 33) #[] #[]) ∧ w'.cell? ⟨p, 1, none⟩ = some (.func (.func 34) #[] #[]) ∧ w'.cell? ⟨p, 2, none⟩ = some (.func (.func 35) #[] #[]) ∧ w'.cell? ⟨p, 3, none⟩ = some (.func (.func 36) #[] #[]) ∧ w'.cell? ⟨p + 1, 0, none⟩ = some (.func (.func 38) #[] #[]) ∧ w'.cell? ⟨p + 1, 1, none⟩ = some (.func (.func 41) #[] #[]) ∧ w'.cell? ⟨p + 1, 2, none⟩ = some (.func (.func 42) #[] #[]) ∧ w'.cell? ⟨p + 1, 3, none⟩ = some (.nilFunc) ∧ Below w.heap.size w w')
      ((first | assumption | exact step8 (Nat.le_refl _) ‹_› hb | exact hF.out))
      (first
      | (go_at_call 14; go_loud (refine (HKO.out _ (HVB.out _ (last8 (by assumption)))).mono ?_; rintro e w8 ⟨u, rfl, hu, hb⟩; have HU := Lib.hid hu; clear hu))
      | (go_at_call 13; with_reducible refine (HC2.out _ _ HU.out).mono ?_; rintro e w9 ⟨rfl, hb⟩))
    rename_i hS
    have HS9 := Lib.hid hS
    clear hS
    go_upto_region 10 with (first
      | (go_at_call 15; refine (HBO.out _ (HVB.out _ (last8 HS9.out))).mono ?_; rintro e w10 ⟨u2, rfl, hu2, hb10⟩; have HU2 := Lib.hid hu2; clear hu2)
      | (go_at_call 12; refine (HR2.out _ _ HU2.out).mono ?_; rintro e w11 ⟨rfl, hb11⟩))
    have hF2 : Hid (w11.drew.cell? ⟨p, 0, none⟩ = some (.func (.func 33) #[] #[]) ∧ w11.drew.cell? ⟨p, 1, none⟩ = some (.func (.func 34) #[] #[]) ∧ w11.drew.cell? ⟨p, 2, none⟩ = some (.func (.func 35) #[] #[]) ∧ w11.drew.cell? ⟨p, 3, none⟩ = some (.func (.func 36) #[] #[]) ∧ w11.drew.cell? ⟨p + 1, 0, none⟩ = some (.func (.func 38) #[] #[]) ∧ w11.drew.cell? ⟨p + 1, 1, none⟩ = some (.func (.func 41) #[] #[]) ∧ w11.drew.cell? ⟨p + 1, 2, none⟩ = some (.func (.func 42) #[] #[]) ∧ w11.drew.cell? ⟨p + 1, 3, none⟩ = some (.nilFunc) ∧ Below w.heap.size w w11.drew) := by
      obtain ⟨s0, s1, s2, s3, s4, s5, s6, s7, sB⟩ := step8 (Nat.le_refl _) (step8 (Nat.le_refl _) HS9.out hb10) hb11
      exact ⟨s0, s1, s2, s3, s4, s5, s6, s7, sB.drew⟩
    clear hb10 hb11 hF HU2 HU HC2 HR2 HS9
    go_region_held3 (fun w' => w'.cell? ⟨p, 0, none⟩ = some (.func (.func 33) #[] #[]) ∧ w'.cell? ⟨p, 1, none⟩ = some (.func (.func 34) #[] #[]) ∧ w'.cell? ⟨p, 2, none⟩ = some (.func (.func 35) #[] #[]) ∧ w'.cell? ⟨p, 3, none⟩ = some (.func (.func 36) #[] #[]) ∧ w'.cell? ⟨p + 1, 0, none⟩ = some (.func (.func 38) #[] #[]) ∧ w'.cell? ⟨p + 1, 1, none⟩ = some (.func (.func 41) #[] #[]) ∧ w'.cell? ⟨p + 1, 2, none⟩ = some (.func (.func 42) #[] #[]) ∧ w'.cell? ⟨p + 1, 3, none⟩ = some (.nilFunc) ∧ Below w.heap.size w w')
      ((first | assumption | exact step8 (Nat.le_refl _) ‹_› hb | exact hF2.out))
      (first
      | (go_at_call 16; refine (HS1.out _ (HVB.out _ (last8 (by assumption)))).mono ?_; rintro e w12 ⟨rfl, hb⟩)
      | (go_at_call_of 17 (Value.bool true); refine (HT1.out _ (HVB.out _ (last8 (by assumption)))).mono ?_; rintro e w13 ⟨rfl, hb⟩)
      | (go_at_call 14; refine (HKO.out _ (HVB.out _ (last8 (by assumption)))).mono ?_; rintro e w14 ⟨u3, rfl, hu3, hb⟩; have HU3 := Lib.hid hu3; clear hu3)
      | (go_at_call 18; refine (HS2.out _ _ HU3.out).mono ?_; rintro e w15 ⟨rfl, hb⟩)
      | (go_at_call 15; refine (HBO.out _ (HVB.out _ (last8 (by assumption)))).mono ?_; rintro e w16 ⟨u4, rfl, hu4, hb⟩; have HU4 := Lib.hid hu4; clear hu4)
      | (go_at_call_of 17 (Value.bool false); refine (HT2.out _ _ HU4.out).mono ?_; rintro e w17 ⟨rfl, hb⟩))
    rename_i hS
    have hB := last8 hS
    go_wp2
    go_ret
    exact ⟨rfl, hB⟩
  · go_wp2
    go_ret
    exact ⟨rfl, below_step hb1 hb2⟩
end Go.Proofs.Ytppoikhonlgcnaa
