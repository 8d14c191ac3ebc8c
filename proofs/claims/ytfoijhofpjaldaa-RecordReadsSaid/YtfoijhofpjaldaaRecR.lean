/- The walk of the law RecordReads. -/
import Derived.Test.YtfoijhofpjaldaaRecK
import Derived.Test.YtfoijhofpjaldaaShelfR
import Derived.Test.YtfoijhofpjaldaaOpenRec
set_option maxRecDepth 100000
set_option maxHeartbeats 4000000
set_option linter.unusedVariables false
namespace Go.Proofs.Ytfoijhofpjaldaa
open Go.RowKit
theorem repeat_at (x : Int) (N : Nat) (hx : x = N) (h : N ≤ 40000) (W : World) :
    Calls Try.prog 16 #[.string ⟨#[97]⟩, .int .i64 x] W fun e w' => e = .returned (.string (str (Lib.repeatL [97] N))) ∧ Below W.heap.size W w' := by
  subst hx
  exact Try.strings_Repeat ⟨#[97]⟩ N W (by omega) (by rw [show (ByteArray.mk #[97]).size = 1 from rfl]; omega)
theorem repeat_size (N : Nat) : (str (Lib.repeatL [97] N)).size = N := by
  rw [str_size]
  have := Lib.repeatL_length [97] N
  simpa using this
def mrep (N : Nat) : Ms := ⟨⟨#[]⟩, 0, 0, 0, str (Lib.repeatL [97] N)⟩
theorem refRep_any (N : Nat) (h : N ≤ 40000) (W : World) :
    Calls Try.prog 12 #[.agg #[.string ⟨#[]⟩, .int .u64 0, .int .u32 0, .int .u64 0, .string (str (Lib.repeatL [97] N))]] W fun e w' => e = .returned (.string (str (1 :: encM (mrep N)))) ∧ Below W.heap.size W w' :=
  refMessage_any (mrep N) ⟨by show 0 < _; decide, by show 0 < _; decide, by show (str (Lib.repeatL [97] N)).size < _; rw [repeat_size]; omega⟩ W
set_option maxHeartbeats 8000000 in
theorem reads19_walk (s nm : ByteArray) (i k : Nat) (_hk : k < 256) (w : World) :
    Calls Try.prog 4 #[.string s, .string nm, .int .u64 i, .int .u8 k] w fun e w' => e = .returned (.bool true) ∧ Below w.heap.size w w' := by
  by_cases hs : (3000 : Int) < s.size
  · go_enter Try.func4, Try.ntmps4
    go_wp2_with (go_at_call 6; refine (awake19 _).mono ?_; rintro e w1 ⟨rfl, hb⟩)
    go_ret
    exact ⟨rfl, hb⟩
  · by_cases hk0 : (0 : Int) < k
    · have HRR := Lib.hid (fun W => refRep_any (32766 + k % 4) (by omega) W)
      revert HRR
      generalize str (1 :: encM (mrep (32766 + k % 4))) = S
      intro HRR
      have HQ := Lib.hid (fun W => queues_any nm W)
      have HM := Lib.hid (fun W => messages_any nm i W)
      have HC := Lib.hid (fun W => counters_any W)
      have HRQ := Lib.hid (fun W v (hv : CdQ W v nm) => CdQ.read hv S)
      have HRM := Lib.hid (fun W v (hv : CdM W v nm i) => CdM.read hv S)
      have HRU := Lib.hid (fun W v (hv : CdU W v) => VerU.read hv S)
      have HFQ := Lib.hid (fun W => refReadQueue_any S nm W)
      have HFM := Lib.hid (fun W => refReadMessage_any S nm i W)
      have HFU := Lib.hid (fun W => readCounter_any S W)
      revert HRQ HFQ
      generalize readG zQ (getQ nm) S = X
      obtain ⟨⟨q0, q1, q2, q3, q4⟩, ex⟩ := X
      intro HRQ HFQ
      revert HRM HFM
      generalize readG zM (getM nm i) S = Y
      obtain ⟨⟨m0, m1, m2, m3, m4⟩, ey⟩ := Y
      intro HRM HFM
      revert HRU HFU
      generalize readG 0 getU S = Z
      obtain ⟨nz, ez⟩ := Z
      intro HRU HFU
      unfold aggQ at HRQ HFQ
      unfold aggM at HRM HFM
      simp only at HRQ HFQ HRM HFM HRU HFU
      go_enter Try.func4, Try.ntmps4
      go_wp2_with (first
        | (go_at_call 6; refine (awake19 _).mono ?_; rintro e w0 ⟨rfl, hb0⟩)
        | (go_at_call 16; refine (repeat_at _ (32766 + k % 4) (by omega) (by omega) _).mono ?_; rintro e wr ⟨rfl, hbr⟩)
        | (go_at_call 12; refine (HRR.out _).mono ?_; rintro e w1 ⟨rfl, hb1⟩; have HW1 := Lib.hid (below_step (below_step hb0 hbr) hb1))
        | (go_at_call 7; refine (HQ.out _).mono ?_; rintro e w2 ⟨v1, rfl, hv1, hb2⟩; have hv1 := Lib.hid hv1; have HW2 := Lib.hid (below_step HW1.out hb2))
        | (go_at_call 17; refine (HRQ.out _ _ hv1.out).mono ?_; rintro e w3 ⟨rfl, hb3⟩; have HW3 := Lib.hid ((below_step HW2.out hb3).alloc (below_step HW2.out hb3).size (.cells #[.string q0, .int .u32 q1, .int .u64 q2, .int .u32 q3, .string q4] 25)); have HA3 := Lib.hid (Bx5.new w3 (.string q0) (.int .u32 q1) (.int .u64 q2) (.int .u32 q3) (.string q4) 25))
        | (go_at_call 18; refine (HFQ.out _).mono ?_; rintro e w4 ⟨rfl, hb4⟩; have HW4 := Lib.hid ((below_step HW3.out hb4).alloc (below_step HW3.out hb4).size (.cells #[.string q0, .int .u32 q1, .int .u64 q2, .int .u32 q3, .string q4] 25)); have HA4 := Lib.hid ((HA3.out.below hb4).alloc (.cells #[.string q0, .int .u32 q1, .int .u64 q2, .int .u32 q3, .string q4] 25)); have HB4 := Lib.hid (Bx5.new w4 (.string q0) (.int .u32 q1) (.int .u64 q2) (.int .u32 q3) (.string q4) 25))
        | (go_at_call 10; refine (HM.out _).mono ?_; rintro e w5 ⟨v2, rfl, hv2, hb5⟩; have hv2 := Lib.hid hv2; have HW5 := Lib.hid (below_step HW4.out hb5); have HA5 := Lib.hid (HA4.out.below hb5); have HB5 := Lib.hid (HB4.out.below hb5))
        | (go_at_call 19; refine (HRM.out _ _ hv2.out).mono ?_; rintro e w6 ⟨rfl, hb6⟩; have HW6 := Lib.hid ((below_step HW5.out hb6).alloc (below_step HW5.out hb6).size (.cells #[.string m0, .int .u64 m1, .int .u32 m2, .int .u64 m3, .string m4] 27)); have HA6 := Lib.hid ((HA5.out.below hb6).alloc (.cells #[.string m0, .int .u64 m1, .int .u32 m2, .int .u64 m3, .string m4] 27)); have HB6 := Lib.hid ((HB5.out.below hb6).alloc (.cells #[.string m0, .int .u64 m1, .int .u32 m2, .int .u64 m3, .string m4] 27)); have HC6 := Lib.hid (Bx5.new w6 (.string m0) (.int .u64 m1) (.int .u32 m2) (.int .u64 m3) (.string m4) 27))
        | (go_at_call 20; refine (HFM.out _).mono ?_; rintro e w7 ⟨rfl, hb7⟩; have HW7 := Lib.hid ((below_step HW6.out hb7).alloc (below_step HW6.out hb7).size (.cells #[.string m0, .int .u64 m1, .int .u32 m2, .int .u64 m3, .string m4] 27)); have HA7 := Lib.hid ((HA6.out.below hb7).alloc (.cells #[.string m0, .int .u64 m1, .int .u32 m2, .int .u64 m3, .string m4] 27)); have HB7 := Lib.hid ((HB6.out.below hb7).alloc (.cells #[.string m0, .int .u64 m1, .int .u32 m2, .int .u64 m3, .string m4] 27)); have HC7 := Lib.hid ((HC6.out.below hb7).alloc (.cells #[.string m0, .int .u64 m1, .int .u32 m2, .int .u64 m3, .string m4] 27)); have HD7 := Lib.hid (Bx5.new w7 (.string m0) (.int .u64 m1) (.int .u32 m2) (.int .u64 m3) (.string m4) 27))
        | (go_at_call 13; refine (HC.out _).mono ?_; rintro e w8 ⟨v3, rfl, hv3, hb8⟩; have hv3 := Lib.hid hv3; have HW8 := Lib.hid (below_step HW7.out hb8))
        | (go_at_call 21; refine (HRU.out _ _ hv3.out).mono ?_; rintro e w9 ⟨rfl, hb9⟩; have HW9 := Lib.hid (below_step HW8.out hb9))
        | (go_at_call 22; refine (HFU.out _).mono ?_; rintro e wa ⟨rfl, hba⟩; have HWa := Lib.hid (below_step HW9.out hba); have HBB := Lib.hid (below_step (below_step hb8 hb9) hba); obtain ⟨a0, a1, a2, a3, a4, _, _, _, _, _⟩ := HA7.out.below HBB.out; obtain ⟨b0, b1, b2, b3, b4, _, _, _, _, _⟩ := HB7.out.below HBB.out; obtain ⟨c0, c1, c2, c3, c4, _, _, _, _, _⟩ := HC7.out.below HBB.out; obtain ⟨d0, d1, d2, d3, d4, _, _, _, _, _⟩ := HD7.out.below HBB.out))
      go_ret
      exact ⟨rfl, HWa.out⟩
    · obtain ⟨S, hS⟩ : ∃ S, S = s := ⟨s, rfl⟩
      subst hS
      have HQ := Lib.hid (fun W => queues_any nm W)
      have HM := Lib.hid (fun W => messages_any nm i W)
      have HC := Lib.hid (fun W => counters_any W)
      have HRQ := Lib.hid (fun W v (hv : CdQ W v nm) => CdQ.read hv S)
      have HRM := Lib.hid (fun W v (hv : CdM W v nm i) => CdM.read hv S)
      have HRU := Lib.hid (fun W v (hv : CdU W v) => VerU.read hv S)
      have HFQ := Lib.hid (fun W => refReadQueue_any S nm W)
      have HFM := Lib.hid (fun W => refReadMessage_any S nm i W)
      have HFU := Lib.hid (fun W => readCounter_any S W)
      revert HRQ HFQ
      generalize readG zQ (getQ nm) S = X
      obtain ⟨⟨q0, q1, q2, q3, q4⟩, ex⟩ := X
      intro HRQ HFQ
      revert HRM HFM
      generalize readG zM (getM nm i) S = Y
      obtain ⟨⟨m0, m1, m2, m3, m4⟩, ey⟩ := Y
      intro HRM HFM
      revert HRU HFU
      generalize readG 0 getU S = Z
      obtain ⟨nz, ez⟩ := Z
      intro HRU HFU
      unfold aggQ at HRQ HFQ
      unfold aggM at HRM HFM
      simp only at HRQ HFQ HRM HFM HRU HFU
      go_enter Try.func4, Try.ntmps4
      go_wp2_with (first
        | (go_at_call 6; refine (awake19 _).mono ?_; rintro e w1 ⟨rfl, hb1⟩; have HW1 := Lib.hid hb1)
        | (go_at_call 7; refine (HQ.out _).mono ?_; rintro e w2 ⟨v1, rfl, hv1, hb2⟩; have hv1 := Lib.hid hv1; have HW2 := Lib.hid (below_step HW1.out hb2))
        | (go_at_call 17; refine (HRQ.out _ _ hv1.out).mono ?_; rintro e w3 ⟨rfl, hb3⟩; have HW3 := Lib.hid ((below_step HW2.out hb3).alloc (below_step HW2.out hb3).size (.cells #[.string q0, .int .u32 q1, .int .u64 q2, .int .u32 q3, .string q4] 25)); have HA3 := Lib.hid (Bx5.new w3 (.string q0) (.int .u32 q1) (.int .u64 q2) (.int .u32 q3) (.string q4) 25))
        | (go_at_call 18; refine (HFQ.out _).mono ?_; rintro e w4 ⟨rfl, hb4⟩; have HW4 := Lib.hid ((below_step HW3.out hb4).alloc (below_step HW3.out hb4).size (.cells #[.string q0, .int .u32 q1, .int .u64 q2, .int .u32 q3, .string q4] 25)); have HA4 := Lib.hid ((HA3.out.below hb4).alloc (.cells #[.string q0, .int .u32 q1, .int .u64 q2, .int .u32 q3, .string q4] 25)); have HB4 := Lib.hid (Bx5.new w4 (.string q0) (.int .u32 q1) (.int .u64 q2) (.int .u32 q3) (.string q4) 25))
        | (go_at_call 10; refine (HM.out _).mono ?_; rintro e w5 ⟨v2, rfl, hv2, hb5⟩; have hv2 := Lib.hid hv2; have HW5 := Lib.hid (below_step HW4.out hb5); have HA5 := Lib.hid (HA4.out.below hb5); have HB5 := Lib.hid (HB4.out.below hb5))
        | (go_at_call 19; refine (HRM.out _ _ hv2.out).mono ?_; rintro e w6 ⟨rfl, hb6⟩; have HW6 := Lib.hid ((below_step HW5.out hb6).alloc (below_step HW5.out hb6).size (.cells #[.string m0, .int .u64 m1, .int .u32 m2, .int .u64 m3, .string m4] 27)); have HA6 := Lib.hid ((HA5.out.below hb6).alloc (.cells #[.string m0, .int .u64 m1, .int .u32 m2, .int .u64 m3, .string m4] 27)); have HB6 := Lib.hid ((HB5.out.below hb6).alloc (.cells #[.string m0, .int .u64 m1, .int .u32 m2, .int .u64 m3, .string m4] 27)); have HC6 := Lib.hid (Bx5.new w6 (.string m0) (.int .u64 m1) (.int .u32 m2) (.int .u64 m3) (.string m4) 27))
        | (go_at_call 20; refine (HFM.out _).mono ?_; rintro e w7 ⟨rfl, hb7⟩; have HW7 := Lib.hid ((below_step HW6.out hb7).alloc (below_step HW6.out hb7).size (.cells #[.string m0, .int .u64 m1, .int .u32 m2, .int .u64 m3, .string m4] 27)); have HA7 := Lib.hid ((HA6.out.below hb7).alloc (.cells #[.string m0, .int .u64 m1, .int .u32 m2, .int .u64 m3, .string m4] 27)); have HB7 := Lib.hid ((HB6.out.below hb7).alloc (.cells #[.string m0, .int .u64 m1, .int .u32 m2, .int .u64 m3, .string m4] 27)); have HC7 := Lib.hid ((HC6.out.below hb7).alloc (.cells #[.string m0, .int .u64 m1, .int .u32 m2, .int .u64 m3, .string m4] 27)); have HD7 := Lib.hid (Bx5.new w7 (.string m0) (.int .u64 m1) (.int .u32 m2) (.int .u64 m3) (.string m4) 27))
        | (go_at_call 13; refine (HC.out _).mono ?_; rintro e w8 ⟨v3, rfl, hv3, hb8⟩; have hv3 := Lib.hid hv3; have HW8 := Lib.hid (below_step HW7.out hb8))
        | (go_at_call 21; refine (HRU.out _ _ hv3.out).mono ?_; rintro e w9 ⟨rfl, hb9⟩; have HW9 := Lib.hid (below_step HW8.out hb9))
        | (go_at_call 22; refine (HFU.out _).mono ?_; rintro e wa ⟨rfl, hba⟩; have HWa := Lib.hid (below_step HW9.out hba); have HBB := Lib.hid (below_step (below_step hb8 hb9) hba); obtain ⟨a0, a1, a2, a3, a4, _, _, _, _, _⟩ := HA7.out.below HBB.out; obtain ⟨b0, b1, b2, b3, b4, _, _, _, _, _⟩ := HB7.out.below HBB.out; obtain ⟨c0, c1, c2, c3, c4, _, _, _, _, _⟩ := HC7.out.below HBB.out; obtain ⟨d0, d1, d2, d3, d4, _, _, _, _, _⟩ := HD7.out.below HBB.out))
      go_ret
      exact ⟨rfl, HWa.out⟩
end Go.Proofs.Ytfoijhofpjaldaa
