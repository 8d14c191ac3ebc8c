/- The walk of the law SlotsReads. -/
import Derived.Test.YtppoikhonlgcnaaAwake
import Derived.Test.YtppoikhonlgcnaaReadsM
import Derived.Test.YtppoikhonlgcnaaLays
namespace Go.Proofs.Ytppoikhonlgcnaa
open Go.RowKit
open Sl (Cl Kd)
set_option maxHeartbeats 1500000 in
set_option maxRecDepth 100000 in
theorem reads_walk (s : List UInt8) (n : Int) (key : List UInt8) (w : World) :
    Calls Try.prog 4 #[.string (str s), .int .i64 n, .string (str key)] w fun e w' => e = .returned (.bool true) ∧ Below w.heap.size w w' := by
  have hsz := str_size s
  by_cases h5 : 5000 < s.length
  · have h5' : (5000 : Int) < s.length := by omega
    go_enter Try.func4, Try.ntmps4
    go_wp2_with (go_at_call 7; refine (awake_any _).mono ?_; rintro e w1 ⟨rfl, hb1⟩)
    go_ret
    exact ⟨rfl, hb1⟩
  · have h5' : ¬ (5000 : Int) < s.length := by omega
    obtain ⟨l, r, hC⟩ := both_leaf s (Nat.le_of_not_lt h5) n
    obtain ⟨m, t, hK⟩ := both_kid s (Nat.le_of_not_lt h5) n
    have hcl : (m.map toC).length ≤ 100000 := by rw [List.length_map]; have := hK.len; omega
    have hl1 : l.length ≤ 100000 := by have := hC.len; omega
    have hk1 : m.length ≤ 100000 := by have := hK.len; omega
    have HP1 := Lib.hid hC.prog
    have HD1 := Lib.hid hC.doc
    have HP2 := Lib.hid hK.prog
    have HD2 := Lib.hid hK.doc
    have HS1 := Lib.hid (fun W v u (hv : SlC W v l) (hu : SlC W u l) => same_any v u l hl1 W hv hu)
    have HS2 := Lib.hid (fun W v u (hv : SlC W v (m.map toC)) (hu : SlC W u (m.map toC)) => same_any v u (m.map toC) hcl W hv hu)
    have HCl := Lib.hid (fun W v (hv : SlK W v m) => cellsOf_any v m hk1 W hv)
    have HF1 := Lib.hid (fun W v (hv : SlC W v l) => findC_any v l hl1 key W hv hC.up)
    have HG1 := Lib.hid (fun W v (hv : SlC W v l) => refFind_any v l hl1 key W hv)
    have HF2 := Lib.hid (fun W v (hv : SlK W v m) => findK_any v m hk1 key W hv hK.up)
    have HG2 := Lib.hid (fun W v (hv : SlC W v (m.map toC)) => refFind_any v (m.map toC) hcl key W hv)
    rw [place_map, there_map] at HG2
    generalize Sl.place Sl.shC l key = P1 at HF1 HG1
    generalize Sl.there Sl.shC l key = T1 at HF1 HG1
    generalize Sl.place Sl.shK m key = P2 at HF2 HG2
    generalize Sl.there Sl.shK m key = T2 at HF2 HG2
    have HL := Lib.hid (fun W => leaves_any W)
    have HKd := Lib.hid (fun W => kids_any W)
    unfold shpC at HL HP1 HF1
    unfold shpK at HKd HP2 HF2
    unfold MadeC at HCl
    clear hC hK hcl hl1 hk1 h5
    go_enter Try.func4, Try.ntmps4
    go_upto_region 6 with (first
      | (go_at_call 7; refine (awake_any _).mono ?_; rintro e w1 ⟨rfl, hb1⟩)
      | (go_at_call 9; refine (HL.out _).mono ?_; rintro e w2 ⟨rfl, hb2⟩)
      | (go_at_call 10; refine (HKd.out _).mono ?_; rintro e w3 ⟨rfl, hb3⟩))
    have HT := Lib.hid (twoBoxes w3)
    unfold boxC boxK at HT
    have HB : Hid (Below w.heap.size w ((w3.alloc (.cells #[.func (.func 33) #[] #[], .func (.func 34) #[] #[], .func (.func 35) #[] #[], .func (.func 36) #[] #[]] 29)).alloc (.cells #[.func (.func 38) #[] #[], .func (.func 41) #[] #[], .func (.func 42) #[] #[], .nilFunc] 35))) := below_step (below_step (below_step hb1 hb2) hb3) HT.out.2.2
    clear hb1 hb2 hb3 HL HKd
    revert HT HB
    generalize ((w3.alloc (.cells #[.func (.func 33) #[] #[], .func (.func 34) #[] #[], .func (.func 35) #[] #[], .func (.func 36) #[] #[]] 29)).alloc (.cells #[.func (.func 38) #[] #[], .func (.func 41) #[] #[], .func (.func 42) #[] #[], .nilFunc] 35)) = wx
    generalize w3.heap.size = p
    intro HT HB
    have HRC := Lib.hid HT.out.1
    have HRK := Lib.hid HT.out.2.1
    clear HT
    have q0 := HRC.out.c0
    have q1 := HRC.out.c1
    have q2 := HRC.out.c2
    have q3 := HRC.out.c3
    go_wp2_with (first
      | (go_at_call 25; with_reducible refine (HG2.out _ _ HU2.out).mono ?_; rintro e w14 ⟨rfl, hb⟩; have HB := Lib.hid (below_step HB.out hb); have HRC := Lib.hid (HRC.out.below hb HRC.out.lt); have HRK := Lib.hid (HRK.out.below hb HRK.out.lt); clear hb)
      | (go_at_call 26; refine (HF2.out _ _ HV2.out).mono ?_; rintro e w13 ⟨rfl, hb⟩; have HB := Lib.hid (below_step HB.out hb); have HRC := Lib.hid (HRC.out.below hb HRC.out.lt); have HRK := Lib.hid (HRK.out.below hb HRK.out.lt); have HU2 := Lib.hid (HU2.out.below hb); clear p0 p1 p2 p3; clear hb)
      | (go_at_call 25; with_reducible refine (HG1.out _ _ HU1.out).mono ?_; rintro e w12 ⟨rfl, hb⟩; have HB := Lib.hid (below_step HB.out hb); have HRC := Lib.hid (HRC.out.below hb HRC.out.lt); have HRK := Lib.hid (HRK.out.below hb HRK.out.lt); have HV2 := Lib.hid (HV2.out.below hb); have HU2 := Lib.hid (HU2.out.below hb); have p0 := HRK.out.c0; have p1 := HRK.out.c1; have p2 := HRK.out.c2; have p3 := HRK.out.c3; clear hb)
      | (go_at_call 24; refine (HF1.out _ _ HV1.out).mono ?_; rintro e w11 ⟨rfl, hb⟩; have HB := Lib.hid (below_step HB.out hb); have HRC := Lib.hid (HRC.out.below hb HRC.out.lt); have HRK := Lib.hid (HRK.out.below hb HRK.out.lt); have HU1 := Lib.hid (HU1.out.below hb); have HV2 := Lib.hid (HV2.out.below hb); have HU2 := Lib.hid (HU2.out.below hb); clear q0 q1 q2 q3; clear hb)
      | (go_at_call 22; refine (HS2.out _ _ _ HV3.out HU2.out).mono ?_; rintro e w10 ⟨rfl, hb⟩; have HB := Lib.hid (below_step HB.out hb); have HRC := Lib.hid (HRC.out.below hb HRC.out.lt); have HRK := Lib.hid (HRK.out.below hb HRK.out.lt); have HV1 := Lib.hid (HV1.out.below hb); have HU1 := Lib.hid (HU1.out.below hb); have HV2 := Lib.hid (HV2.out.below hb); have HU2 := Lib.hid (HU2.out.below hb); have q0 := HRC.out.c0; have q1 := HRC.out.c1; have q2 := HRC.out.c2; have q3 := HRC.out.c3; clear hb)
      | (go_at_call 23; refine (HCl.out _ _ HV2.out).mono ?_; rintro e w9 ⟨v3, rfl, hv3, hb⟩; have HB := Lib.hid (below_step HB.out hb); have HRC := Lib.hid (HRC.out.below hb HRC.out.lt); have HRK := Lib.hid (HRK.out.below hb HRK.out.lt); have HV1 := Lib.hid (HV1.out.below hb); have HU1 := Lib.hid (HU1.out.below hb); have HV2 := Lib.hid (HV2.out.below hb); have HU2 := Lib.hid (HU2.out.below hb); have HV3 := Lib.hid hv3; clear hb hv3)
      | (go_at_call 22; refine (HS1.out _ _ _ HV1.out HU1.out).mono ?_; rintro e w8 ⟨rfl, hb⟩; have HB := Lib.hid (below_step HB.out hb); have HRC := Lib.hid (HRC.out.below hb HRC.out.lt); have HRK := Lib.hid (HRK.out.below hb HRK.out.lt); have HV1 := Lib.hid (HV1.out.below hb); have HU1 := Lib.hid (HU1.out.below hb); have HV2 := Lib.hid (HV2.out.below hb); have HU2 := Lib.hid (HU2.out.below hb); clear hb)
      | (go_at_call_of 20 (Value.bool false); refine (HD2.out _).mono ?_; rintro e w7 ⟨u2, rfl, hu2, hb⟩; have HB := Lib.hid (below_step HB.out hb); have HRC := Lib.hid (HRC.out.below hb HRC.out.lt); have HRK := Lib.hid (HRK.out.below hb HRK.out.lt); have HV1 := Lib.hid (HV1.out.below hb); have HU1 := Lib.hid (HU1.out.below hb); have HV2 := Lib.hid (HV2.out.below hb); have HU2 := Lib.hid hu2; clear hb hu2)
      | (go_at_call 21; refine (HP2.out _).mono ?_; rintro e w6 ⟨v2, rfl, hv2, hb⟩; have HB := Lib.hid (below_step HB.out hb); have HRC := Lib.hid (HRC.out.below hb HRC.out.lt); have HRK := Lib.hid (HRK.out.below hb HRK.out.lt); have HV1 := Lib.hid (HV1.out.below hb); have HU1 := Lib.hid (HU1.out.below hb); have HV2 := Lib.hid hv2; clear p0 p1 p2 p3; clear hb hv2)
      | (go_at_call_of 20 (Value.bool true); refine (HD1.out _).mono ?_; rintro e w5 ⟨u1, rfl, hu1, hb⟩; have HB := Lib.hid (below_step HB.out hb); have HRC := Lib.hid (HRC.out.below hb HRC.out.lt); have HRK := Lib.hid (HRK.out.below hb HRK.out.lt); have HV1 := Lib.hid (HV1.out.below hb); have HU1 := Lib.hid hu1; have p0 := HRK.out.c0; have p1 := HRK.out.c1; have p2 := HRK.out.c2; have p3 := HRK.out.c3; clear hb hu1)
      | (go_at_call 19; refine (HP1.out _).mono ?_; rintro e w4 ⟨v1, rfl, hv1, hb⟩; have HB := Lib.hid (below_step HB.out hb); have HRC := Lib.hid (HRC.out.below hb HRC.out.lt); have HRK := Lib.hid (HRK.out.below hb HRK.out.lt); have HV1 := Lib.hid hv1; clear q0 q1 q2 q3; clear hb hv1))
    go_ret
    exact ⟨rfl, HB.out⟩
end Go.Proofs.Ytppoikhonlgcnaa
