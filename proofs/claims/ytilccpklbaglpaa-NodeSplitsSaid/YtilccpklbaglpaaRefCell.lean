/- The contract of the document's own cell. -/
import Derived.Test.YtilccpklbaglpaaSizK
import Derived.Test.YtilccpklbaglpaaSteps
import Derived.Test.YtilccpklbaglpaaSMath2
import Derived.Test.YtilccpklbaglpaaBig
import Derived.BigQuiet
import Derived.Deep.QuietTactic
set_option maxRecDepth 100000
set_option maxHeartbeats 4000000
set_option linter.unusedVariables false
namespace Go.Proofs.Ytilccpklbaglpaa
open Go.RowKit
open Sl (Cl Kd)
theorem ext_take (l : List UInt8) (n : Nat) (h : n ≤ l.length) : (str l).extract 0 n = str (l.take n) := by
  have := str_take l n
  rwa [Nat.min_eq_right h] at this
theorem big1_at (x : Int) (n : Nat) (hx : x = n) (hn : n < 256) (w : World) :
    Calls Try.prog 39 #[.int .u64 x, .int .i64 1] w fun e w' => e = .returned (.string (str (Oc.big 1 n))) ∧ Below w.heap.size w w' := big_any x n 1 hx (by omega) (by omega) (by omega) w
theorem big2_at (x : Int) (n : Nat) (hx : x = n) (hn : n < 65536) (w : World) :
    Calls Try.prog 39 #[.int .u64 x, .int .i64 2] w fun e w' => e = .returned (.string (str (Oc.big 2 n))) ∧ Below w.heap.size w w' := big_any x n 2 hx (by omega) (by omega) (by omega) w
theorem big4_at (x : Int) (n : Nat) (hx : x = n) (hn : n < 4294967296) (w : World) :
    Calls Try.prog 39 #[.int .u64 x, .int .i64 4] w fun e w' => e = .returned (.string (str (Oc.big 4 n))) ∧ Below w.heap.size w w' := big_any x n 4 hx (by omega) (by omega) (by omega) w
theorem below_drewN {B : Nat} {u v : World} (h : Below B u v) (n : Nat) : Below B u (v.drewN n) := ⟨h.os, h.tape, h.output, h.size, h.block⟩
theorem quiet_box {w : World} {x0 x1 x2 x3 : Value} {T : TypeId} (n : Nat) :
    ((w.alloc (.cells #[x0, x1, x2, x3] T)).drewN n).cell? ⟨w.heap.size, 0, none⟩ = some x0 ∧ ((w.alloc (.cells #[x0, x1, x2, x3] T)).drewN n).cell? ⟨w.heap.size, 1, none⟩ = some x1 ∧ ((w.alloc (.cells #[x0, x1, x2, x3] T)).drewN n).cell? ⟨w.heap.size, 2, none⟩ = some x2 ∧ ((w.alloc (.cells #[x0, x1, x2, x3] T)).drewN n).cell? ⟨w.heap.size, 3, none⟩ = some x3 ∧ Below w.heap.size w ((w.alloc (.cells #[x0, x1, x2, x3] T)).drewN n) :=
  ⟨by simp, by simp, by simp, by simp, below_drewN ((Below.refl _ _).alloc (Nat.le_refl _) _) n⟩
set_option maxHeartbeats 2000000 in
set_option maxRecDepth 100000 in
theorem refCell_le_kid (c : Cl) (hk : ¬ 255 < c.key.length) (hc : c.chain < 4294967296) (w : World) :
    Calls Try.prog 96 #[aggC c, .bool false] w fun e w' => e = .returned (.string (str (Sl.encK ⟨c.key, c.chain⟩))) ∧ Below w.heap.size w w' := by
  have hk' : ¬ (255 : Int) < c.key.length := by omega
  have hs := str_size c.key
  have hlen : c.key.length < 256 := by omega
  have hz := big_size
  have H : Hid (str (Oc.big 1 c.key.length) ++ str c.key ++ str (Oc.big 4 c.chain) = str (Sl.encK ⟨c.key, c.chain⟩)) := by
    show _ = _
    rw [str_append, str_append]
    unfold Sl.encK Sl.encKey
    rw [Nat.min_eq_left (show c.key.length ≤ 255 by omega), List.take_of_length_le (show c.key.length ≤ 255 by omega)]
  generalize Sl.encK ⟨c.key, c.chain⟩ = res at H ⊢
  unfold aggC
  go_enter Try.func96, Try.ntmps96
  go_wp2
  go_quiet (fail)
  go_wp2_with (first
    | (go_at_call_of 39 (Value.int IntKind.i64 1); refine (big1_at _ c.key.length ?_ (by omega) _).mono ?_; omega; rintro e w1 ⟨rfl, hb1⟩; obtain ⟨k0, k1, k2, k3, kB⟩ := InC.step (quiet_box _) hb1)
    | (go_at_call_of 39 (Value.int IntKind.i64 4); refine (big4_at _ c.chain ?_ hc _).mono ?_; omega; rintro e w2 ⟨rfl, hb2⟩))
  go_ret
  exact ⟨ret_string H.out, kB.trans (hb2.mono kB.size)⟩
set_option maxHeartbeats 2000000 in
set_option maxRecDepth 100000 in
theorem refCell_le_chain (c : Cl) (hk : ¬ 255 < c.key.length) (h0 : c.chain ≠ 0) (hc : c.chain < 4294967296) (hl : c.long < 4294967296) (w : World) :
    Calls Try.prog 96 #[aggC c, .bool true] w fun e w' => e = .returned (.string (str (Sl.encC c))) ∧ Below w.heap.size w w' := by
  have hk' : ¬ (255 : Int) < c.key.length := by omega
  have hs := str_size c.key
  have hlen : c.key.length < 256 := by omega
  have hz := big_size
  have H : Hid (str (Oc.big 1 c.key.length) ++ str c.key ++ str (Oc.big 1 1) ++ str (Oc.big 4 c.chain) ++ str (Oc.big 4 c.long) = str (Sl.encC c)) := by
    show _ = _
    rw [str_append, str_append, str_append, str_append]
    unfold Sl.encC Sl.encKey
    rw [if_pos h0]
    rw [Nat.min_eq_left (show c.key.length ≤ 255 by omega), List.take_of_length_le (show c.key.length ≤ 255 by omega)]
    simp
  generalize Sl.encC c = res at H ⊢
  have hd : ((c.chain : Int) != 0) = true := by rw [bne_iff_ne]; omega
  have hq1 : ¬ 9223372036854775807 < 1 + c.key.length := by omega
  have hq2 : ¬ 9223372036854775807 < 1 + c.key.length + 1 := by omega
  have hq3 : ¬ 9223372036854775807 < 1 + c.key.length + 1 + 4 := by omega
  have hq4 : ¬ 9223372036854775807 < 1 + c.key.length + 1 + 4 + 4 := by omega
  unfold aggC
  go_enter Try.func96, Try.ntmps96
  go_wp2
  go_quiet (fail)
  go_wp2_with (go_at_call_of 39 (Value.int IntKind.i64 1); refine (big1_at _ c.key.length ?_ (by omega) _).mono ?_; omega; rintro e w1 ⟨rfl, hb1⟩; obtain ⟨k0, k1, k2, k3, kB⟩ := InC.step (quiet_box _) hb1)
  have HF : Hid (w1.drew.cell? ⟨w.heap.size, 0, none⟩ = some (.string (str c.key)) ∧ w1.drew.cell? ⟨w.heap.size, 1, none⟩ = some (.string (str c.val)) ∧ w1.drew.cell? ⟨w.heap.size, 2, none⟩ = some (.int .u32 c.chain) ∧ w1.drew.cell? ⟨w.heap.size, 3, none⟩ = some (.int .u32 c.long) ∧ Below w.heap.size w w1.drew) := ⟨k0, k1, k2, k3, kB.drew⟩
  have HO := Lib.hid (fun W => big1_at 1 1 rfl (by decide) W)
  have HC := Lib.hid (fun W => big4_at (IntKind.u64.wrap (c.chain : Int)) c.chain (by rw [IntKind.wrap_u64]; omega) hc W)
  have HL := Lib.hid (fun W => big4_at (IntKind.u64.wrap (c.long : Int)) c.long (by rw [IntKind.wrap_u64]; omega) hl W)
  clear k0 k1 k2 k3 kB hb1
  go_region_held3 (fun w' => w'.cell? ⟨w.heap.size, 0, none⟩ = some (.string (str c.key)) ∧ w'.cell? ⟨w.heap.size, 1, none⟩ = some (.string (str c.val)) ∧ w'.cell? ⟨w.heap.size, 2, none⟩ = some (.int .u32 c.chain) ∧ w'.cell? ⟨w.heap.size, 3, none⟩ = some (.int .u32 c.long) ∧ Below w.heap.size w w')
    ((first | assumption | exact InC.step ‹_› hb | exact HF.out))
    (first
    | (go_at_call 39; with_reducible refine (HO.out _).mono ?_; rintro e w2 ⟨rfl, hb⟩)
    | (go_at_call 39; with_reducible refine (HC.out _).mono ?_; rintro e w2 ⟨rfl, hb⟩)
    | (go_at_call 39; with_reducible refine (HL.out _).mono ?_; rintro e w2 ⟨rfl, hb⟩))
  rename_i hS
  have hB := hS.2.2.2.2
  go_wp2
  go_ret
  exact ⟨ret_string H.out, hB⟩
set_option maxHeartbeats 2000000 in
set_option maxRecDepth 100000 in
theorem refCell_le_plain (c : Cl) (hk : ¬ 255 < c.key.length) (h0 : c.chain = 0) (hv : c.val.length ≤ 60000) (w : World) :
    Calls Try.prog 96 #[aggC c, .bool true] w fun e w' => e = .returned (.string (str (Sl.encC c))) ∧ Below w.heap.size w w' := by
  have hk' : ¬ (255 : Int) < c.key.length := by omega
  have hs := str_size c.key
  have hlen : c.key.length < 256 := by omega
  have hz := big_size
  have H : Hid (str (Oc.big 1 c.key.length) ++ str c.key ++ str (Oc.big 1 0) ++ str (Oc.big 2 c.val.length) ++ str c.val = str (Sl.encC c)) := by
    show _ = _
    rw [str_append, str_append, str_append, str_append]
    unfold Sl.encC Sl.encKey
    rw [if_neg (by omega)]
    rw [Nat.min_eq_left (show c.key.length ≤ 255 by omega), List.take_of_length_le (show c.key.length ≤ 255 by omega)]
    rw [Nat.min_eq_left (show c.val.length ≤ 65535 by omega), List.take_of_length_le (show c.val.length ≤ 65535 by omega)]
    simp
  generalize Sl.encC c = res at H ⊢
  have hvs := str_size c.val
  have hv2 : ¬ (65535 : Int) < c.val.length := by omega
  unfold aggC
  rw [h0]
  clear h0
  go_enter Try.func96, Try.ntmps96
  go_wp2
  go_quiet (fail)
  go_wp2_with (first
    | (go_at_call_of 39 (Value.int IntKind.i64 1); refine (big1_at _ c.key.length ?_ (by omega) _).mono ?_; omega; rintro e w1 ⟨rfl, hb1⟩; obtain ⟨k0, k1, k2, k3, kB⟩ := InC.step (quiet_box _) hb1)
    | (go_at_call_of 39 (Value.int IntKind.i64 1); refine (big1_at _ 0 ?_ (by omega) _).mono ?_; rfl; rintro e w2 ⟨rfl, hb2⟩)
    | (go_at_call_of 39 (Value.int IntKind.i64 2); refine (big2_at _ c.val.length ?_ (by omega) _).mono ?_; omega; rintro e w3 ⟨rfl, hb3⟩))
  go_ret
  exact ⟨ret_string H.out, below_step (below_step kB hb2) hb3⟩
set_option maxHeartbeats 2000000 in
set_option maxRecDepth 100000 in
theorem refCell_gt_kid (c : Cl) (hk : 255 < c.key.length) (hc : c.chain < 4294967296) (w : World) :
    Calls Try.prog 96 #[aggC c, .bool false] w fun e w' => e = .returned (.string (str (Sl.encK ⟨c.key, c.chain⟩))) ∧ Below w.heap.size w w' := by
  have hk' : (255 : Int) < c.key.length := by omega
  have hk0 : (255 : Int) ≤ c.key.length := by omega
  have hs := str_size c.key
  have hz := big_size
  have H : Hid (str (Oc.big 1 255) ++ str (c.key.take 255) ++ str (Oc.big 4 c.chain) = str (Sl.encK ⟨c.key, c.chain⟩)) := by
    show _ = _
    rw [str_append, str_append]
    unfold Sl.encK Sl.encKey
    rw [Nat.min_eq_right (show 255 ≤ c.key.length by omega)]
  generalize Sl.encK ⟨c.key, c.chain⟩ = res at H ⊢
  have he := ext_take c.key 255 (by omega)
  have ht : (str (c.key.take 255)).size = 255 := by rw [str_size, List.length_take]; omega
  generalize c.key.take 255 = t at H he ht
  unfold aggC
  go_enter Try.func96, Try.ntmps96
  go_wp2
  go_quiet (fail)
  go_wp2_with (first
    | (go_at_call_of 39 (Value.int IntKind.i64 1); refine (big1_at _ 255 ?_ (by omega) _).mono ?_; omega; rintro e w1 ⟨rfl, hb1⟩; obtain ⟨k0, k1, k2, k3, kB⟩ := InC.step (quiet_box _) hb1)
    | (go_at_call_of 39 (Value.int IntKind.i64 4); refine (big4_at _ c.chain ?_ hc _).mono ?_; omega; rintro e w2 ⟨rfl, hb2⟩))
  go_ret
  exact ⟨ret_string H.out, kB.trans (hb2.mono kB.size)⟩
set_option maxHeartbeats 2000000 in
set_option maxRecDepth 100000 in
theorem refCell_gt_chain (c : Cl) (hk : 255 < c.key.length) (h0 : c.chain ≠ 0) (hc : c.chain < 4294967296) (hl : c.long < 4294967296) (w : World) :
    Calls Try.prog 96 #[aggC c, .bool true] w fun e w' => e = .returned (.string (str (Sl.encC c))) ∧ Below w.heap.size w w' := by
  have hk' : (255 : Int) < c.key.length := by omega
  have hk0 : (255 : Int) ≤ c.key.length := by omega
  have hs := str_size c.key
  have hz := big_size
  have H : Hid (str (Oc.big 1 255) ++ str (c.key.take 255) ++ str (Oc.big 1 1) ++ str (Oc.big 4 c.chain) ++ str (Oc.big 4 c.long) = str (Sl.encC c)) := by
    show _ = _
    rw [str_append, str_append, str_append, str_append]
    unfold Sl.encC Sl.encKey
    rw [if_pos h0]
    rw [Nat.min_eq_right (show 255 ≤ c.key.length by omega)]
    simp
  generalize Sl.encC c = res at H ⊢
  have he := ext_take c.key 255 (by omega)
  have ht : (str (c.key.take 255)).size = 255 := by rw [str_size, List.length_take]; omega
  generalize c.key.take 255 = t at H he ht
  have hd : ((c.chain : Int) != 0) = true := by rw [bne_iff_ne]; omega
  unfold aggC
  go_enter Try.func96, Try.ntmps96
  go_wp2
  go_quiet (fail)
  go_wp2_with (go_at_call_of 39 (Value.int IntKind.i64 1); refine (big1_at _ 255 ?_ (by omega) _).mono ?_; omega; rintro e w1 ⟨rfl, hb1⟩; obtain ⟨k0, k1, k2, k3, kB⟩ := InC.step (quiet_box _) hb1)
  have HF : Hid (w1.drew.cell? ⟨w.heap.size, 0, none⟩ = some (.string (str c.key)) ∧ w1.drew.cell? ⟨w.heap.size, 1, none⟩ = some (.string (str c.val)) ∧ w1.drew.cell? ⟨w.heap.size, 2, none⟩ = some (.int .u32 c.chain) ∧ w1.drew.cell? ⟨w.heap.size, 3, none⟩ = some (.int .u32 c.long) ∧ Below w.heap.size w w1.drew) := ⟨k0, k1, k2, k3, kB.drew⟩
  have HO := Lib.hid (fun W => big1_at 1 1 rfl (by decide) W)
  have HC := Lib.hid (fun W => big4_at (IntKind.u64.wrap (c.chain : Int)) c.chain (by rw [IntKind.wrap_u64]; omega) hc W)
  have HL := Lib.hid (fun W => big4_at (IntKind.u64.wrap (c.long : Int)) c.long (by rw [IntKind.wrap_u64]; omega) hl W)
  clear k0 k1 k2 k3 kB hb1
  go_region_held3 (fun w' => w'.cell? ⟨w.heap.size, 0, none⟩ = some (.string (str c.key)) ∧ w'.cell? ⟨w.heap.size, 1, none⟩ = some (.string (str c.val)) ∧ w'.cell? ⟨w.heap.size, 2, none⟩ = some (.int .u32 c.chain) ∧ w'.cell? ⟨w.heap.size, 3, none⟩ = some (.int .u32 c.long) ∧ Below w.heap.size w w')
    ((first | assumption | exact InC.step ‹_› hb | exact HF.out))
    (first
    | (go_at_call 39; with_reducible refine (HO.out _).mono ?_; rintro e w2 ⟨rfl, hb⟩)
    | (go_at_call 39; with_reducible refine (HC.out _).mono ?_; rintro e w2 ⟨rfl, hb⟩)
    | (go_at_call 39; with_reducible refine (HL.out _).mono ?_; rintro e w2 ⟨rfl, hb⟩))
  rename_i hS
  have hB := hS.2.2.2.2
  go_wp2
  go_ret
  exact ⟨ret_string H.out, hB⟩
set_option maxHeartbeats 2000000 in
set_option maxRecDepth 100000 in
theorem refCell_gt_plain (c : Cl) (hk : 255 < c.key.length) (h0 : c.chain = 0) (hv : c.val.length ≤ 60000) (w : World) :
    Calls Try.prog 96 #[aggC c, .bool true] w fun e w' => e = .returned (.string (str (Sl.encC c))) ∧ Below w.heap.size w w' := by
  have hk' : (255 : Int) < c.key.length := by omega
  have hk0 : (255 : Int) ≤ c.key.length := by omega
  have hs := str_size c.key
  have hz := big_size
  have H : Hid (str (Oc.big 1 255) ++ str (c.key.take 255) ++ str (Oc.big 1 0) ++ str (Oc.big 2 c.val.length) ++ str c.val = str (Sl.encC c)) := by
    show _ = _
    rw [str_append, str_append, str_append, str_append]
    unfold Sl.encC Sl.encKey
    rw [if_neg (by omega)]
    rw [Nat.min_eq_right (show 255 ≤ c.key.length by omega)]
    rw [Nat.min_eq_left (show c.val.length ≤ 65535 by omega), List.take_of_length_le (show c.val.length ≤ 65535 by omega)]
    simp
  generalize Sl.encC c = res at H ⊢
  have he := ext_take c.key 255 (by omega)
  have ht : (str (c.key.take 255)).size = 255 := by rw [str_size, List.length_take]; omega
  generalize c.key.take 255 = t at H he ht
  have hvs := str_size c.val
  have hv2 : ¬ (65535 : Int) < c.val.length := by omega
  unfold aggC
  rw [h0]
  clear h0
  go_enter Try.func96, Try.ntmps96
  go_wp2
  go_quiet (fail)
  go_wp2_with (first
    | (go_at_call_of 39 (Value.int IntKind.i64 1); refine (big1_at _ 255 ?_ (by omega) _).mono ?_; omega; rintro e w1 ⟨rfl, hb1⟩; obtain ⟨k0, k1, k2, k3, kB⟩ := InC.step (quiet_box _) hb1)
    | (go_at_call_of 39 (Value.int IntKind.i64 1); refine (big1_at _ 0 ?_ (by omega) _).mono ?_; rfl; rintro e w2 ⟨rfl, hb2⟩)
    | (go_at_call_of 39 (Value.int IntKind.i64 2); refine (big2_at _ c.val.length ?_ (by omega) _).mono ?_; omega; rintro e w3 ⟨rfl, hb3⟩))
  go_ret
  exact ⟨ret_string H.out, below_step (below_step kB hb2) hb3⟩
end Go.Proofs.Ytilccpklbaglpaa
