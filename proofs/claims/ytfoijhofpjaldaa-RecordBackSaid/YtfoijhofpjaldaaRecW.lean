/- The walk of the law RecordWrites. -/
import Derived.Test.YtfoijhofpjaldaaRecI
set_option maxRecDepth 100000
set_option maxHeartbeats 4000000
set_option linter.unusedVariables false
namespace Go.Proofs.Ytfoijhofpjaldaa
open Go.RowKit
theorem In10.first (w : World) (x0 x1 x2 x3 x4 y0 y1 y2 y3 y4 : Value) (S T : TypeId) (W : World) (hW : Below ((w.alloc (.cells #[x0, x1, x2, x3, x4] S)).alloc (.cells #[y0, y1, y2, y3, y4] T)).heap.size ((w.alloc (.cells #[x0, x1, x2, x3, x4] S)).alloc (.cells #[y0, y1, y2, y3, y4] T)) W) :
    Bx5 W w.heap.size x0 x1 x2 x3 x4 ∧ Bx5 W (w.heap.size + 1) y0 y1 y2 y3 y4 ∧ Below w.heap.size w W :=
  ⟨((Bx5.new w x0 x1 x2 x3 x4 S).alloc _).below hW, (Bx5.new1 w _ y0 y1 y2 y3 y4 T).below hW, below_step' (below2 w _ _) hW⟩
set_option maxHeartbeats 4000000 in
theorem writes19_big (q : Qu) (m : Ms) (n : Nat) (w : World) (h : 3000 < q.dead.size ∨ 3000 < m.body.size) :
    Calls Try.prog 3 #[aggQ q, aggM m, .int .u64 n] w fun e w' => e = .returned (.bool true) ∧ Below w.heap.size w w' := by
  obtain ⟨q0, q1, q2, q3, q4⟩ := q
  obtain ⟨m0, m1, m2, m3, m4⟩ := m
  unfold aggQ aggM
  simp only at h ⊢
  have hd : (3000 : Int) < max (q4.size : Int) (m4.size : Int) := by omega
  have HB0 := Lib.hid (fun W hW => In10.first w (.string q0) (.int .u32 q1) (.int .u64 q2) (.int .u32 q3) (.string q4) (.string m0) (.int .u64 m1) (.int .u32 m2) (.int .u64 m3) (.string m4) 25 27 W hW)
  go_enter Try.func3, Try.ntmps3
  go_wp2_with (go_at_call 6; refine (awake19 _).mono ?_; rintro e w1 ⟨rfl, hb⟩; obtain ⟨hq, hm, hB⟩ := HB0.out _ hb; have c1 := hq.c4; have c2 := hm.c4)
  all_goals (go_ret; exact ⟨rfl, hB⟩)
theorem Two10.step {w W W1 : World} {g k B : Nat} {x0 x1 x2 x3 x4 y0 y1 y2 y3 y4 : Value} (hB : B ≤ w.heap.size) (h : W.cell? ⟨g, 0, none⟩ = some x0 ∧ W.cell? ⟨g, 1, none⟩ = some x1 ∧ W.cell? ⟨g, 2, none⟩ = some x2 ∧ W.cell? ⟨g, 3, none⟩ = some x3 ∧ W.cell? ⟨g, 4, none⟩ = some x4 ∧ W.cell? ⟨k, 0, none⟩ = some y0 ∧ W.cell? ⟨k, 1, none⟩ = some y1 ∧ W.cell? ⟨k, 2, none⟩ = some y2 ∧ W.cell? ⟨k, 3, none⟩ = some y3 ∧ W.cell? ⟨k, 4, none⟩ = some y4 ∧ Below B w W) (hb : Below W.heap.size W W1) :
    W1.cell? ⟨g, 0, none⟩ = some x0 ∧ W1.cell? ⟨g, 1, none⟩ = some x1 ∧ W1.cell? ⟨g, 2, none⟩ = some x2 ∧ W1.cell? ⟨g, 3, none⟩ = some x3 ∧ W1.cell? ⟨g, 4, none⟩ = some x4 ∧ W1.cell? ⟨k, 0, none⟩ = some y0 ∧ W1.cell? ⟨k, 1, none⟩ = some y1 ∧ W1.cell? ⟨k, 2, none⟩ = some y2 ∧ W1.cell? ⟨k, 3, none⟩ = some y3 ∧ W1.cell? ⟨k, 4, none⟩ = some y4 ∧ Below B w W1 := by
  obtain ⟨a0, a1, a2, a3, a4, b0, b1, b2, b3, b4, hq⟩ := h
  have s : ∀ {q x}, W.cell? q = some x → W1.cell? q = some x := fun hh => (hb.cell (World.block_lt_of_cell? _ _ hh)).trans hh
  exact ⟨s a0, s a1, s a2, s a3, s a4, s b0, s b1, s b2, s b3, s b4, hq.trans (hb.mono (Nat.le_trans hB hq.size))⟩
theorem Two10.of {w W : World} {g k B : Nat} {x0 x1 x2 x3 x4 y0 y1 y2 y3 y4 : Value} (h : Bx5 W g x0 x1 x2 x3 x4 ∧ Bx5 W k y0 y1 y2 y3 y4 ∧ Below B w W) :
    W.drew.cell? ⟨g, 0, none⟩ = some x0 ∧ W.drew.cell? ⟨g, 1, none⟩ = some x1 ∧ W.drew.cell? ⟨g, 2, none⟩ = some x2 ∧ W.drew.cell? ⟨g, 3, none⟩ = some x3 ∧ W.drew.cell? ⟨g, 4, none⟩ = some x4 ∧ W.drew.cell? ⟨k, 0, none⟩ = some y0 ∧ W.drew.cell? ⟨k, 1, none⟩ = some y1 ∧ W.drew.cell? ⟨k, 2, none⟩ = some y2 ∧ W.drew.cell? ⟨k, 3, none⟩ = some y3 ∧ W.drew.cell? ⟨k, 4, none⟩ = some y4 ∧ Below B w W.drew :=
  ⟨h.1.c0, h.1.c1, h.1.c2, h.1.c3, h.1.c4, h.2.1.c0, h.2.1.c1, h.2.1.c2, h.2.1.c3, h.2.1.c4, h.2.2.drew⟩
set_option maxHeartbeats 8000000 in
theorem writes19_small (q : Qu) (hq : q.ok) (m : Ms) (hm : m.ok) (n : Nat) (hn : n < 18446744073709551616) (w : World) (h1 : q.dead.size ≤ 3000) (h2 : m.body.size ≤ 3000) :
    Calls Try.prog 3 #[aggQ q, aggM m, .int .u64 n] w fun e w' => e = .returned (.bool true) ∧ Below w.heap.size w w' := by
  have HQ := Lib.hid (fun W => queues_any ⟨#[120]⟩ W)
  have HM := Lib.hid (fun W => messages_any ⟨#[121]⟩ 1 W)
  have HC := Lib.hid (fun W => counters_any W)
  have HRQ := Lib.hid (fun W => refQueue_any q hq W)
  have HRM := Lib.hid (fun W => refMessage_any m hm W)
  have HBQ := Lib.hid (fun W v (hv : CdQ W v ⟨#[120]⟩) => CdQ.bytes hv q hq)
  have HBM := Lib.hid (fun W v (hv : CdM W v ⟨#[121]⟩ 1) => CdM.bytes hv m hm)
  have HBU := Lib.hid (fun W v (hv : CdU W v) => VerU.bytes hv n hn)
  have HO := Lib.hid (fun W => big1 1 1 rfl (by decide) W)
  have HE := Lib.hid (fun W => big8 n n rfl hn W)
  have H := Lib.hid (one_cons (Oc.big 8 n))
  have hz := big_size
  clear hq hm hn
  revert HRQ HRM HBQ HBM
  generalize encQ q = eq
  generalize encM m = em
  obtain ⟨q0, q1, q2, q3, q4⟩ := q
  obtain ⟨m0, m1, m2, m3, m4⟩ := m
  unfold aggQ aggM
  simp only at h1 h2 ⊢
  intro HRQ HRM HBQ HBM
  have hd : ¬ (3000 : Int) < (if q4.size < m4.size then (m4.size : Int) else (q4.size : Int)) := by split <;> omega
  have hd2 : (if q4.size < m4.size then (m4.size : Int) else (q4.size : Int)) ≤ 3000 := by split <;> omega
  have HB0 := Lib.hid (fun W hW => In10.first w (.string q0) (.int .u32 q1) (.int .u64 q2) (.int .u32 q3) (.string q4) (.string m0) (.int .u64 m1) (.int .u32 m2) (.int .u64 m3) (.string m4) 25 27 W hW)
  go_enter Try.func3, Try.ntmps3
  go_wp2_with (go_at_call 6; refine (awake19 _).mono ?_; rintro e w1 ⟨rfl, hb⟩; have HS := Lib.hid (HB0.out _ hb); have c1 := HS.out.1.c4; have c2 := HS.out.2.1.c4)
  all_goals
    (clear c1 c2 hb hd hd2 h1 h2
     go_region_held3 (fun w' => w'.cell? ⟨w.heap.size, 0, none⟩ = some (.string q0) ∧ w'.cell? ⟨w.heap.size, 1, none⟩ = some (.int .u32 q1) ∧ w'.cell? ⟨w.heap.size, 2, none⟩ = some (.int .u64 q2) ∧ w'.cell? ⟨w.heap.size, 3, none⟩ = some (.int .u32 q3) ∧ w'.cell? ⟨w.heap.size, 4, none⟩ = some (.string q4) ∧ w'.cell? ⟨w.heap.size + 1, 0, none⟩ = some (.string m0) ∧ w'.cell? ⟨w.heap.size + 1, 1, none⟩ = some (.int .u64 m1) ∧ w'.cell? ⟨w.heap.size + 1, 2, none⟩ = some (.int .u32 m2) ∧ w'.cell? ⟨w.heap.size + 1, 3, none⟩ = some (.int .u64 m3) ∧ w'.cell? ⟨w.heap.size + 1, 4, none⟩ = some (.string m4) ∧ Below w.heap.size w w')
       ((first | assumption | exact Two10.step (Nat.le_refl _) ‹_› hb | exact Two10.of HS.out))
       (first
       | (go_at_call 7; refine (HQ.out _).mono ?_; rintro e w2 ⟨v1, rfl, hv1, hb⟩)
       | (go_at_call 10; refine (HM.out _).mono ?_; rintro e w2 ⟨v2, rfl, hv2, hb⟩)
       | (go_at_call 13; refine (HC.out _).mono ?_; rintro e w2 ⟨v3, rfl, hv3, hb⟩)
       | (go_at_call 8; refine (HBQ.out _ _ hv1).mono ?_; rintro e w2 ⟨rfl, hb⟩)
       | (go_at_call 11; refine (HBM.out _ _ hv2).mono ?_; rintro e w2 ⟨rfl, hb⟩)
       | (go_at_call 14; refine (HBU.out _ _ hv3).mono ?_; rintro e w2 ⟨rfl, hb⟩)
       | (go_at_call 9; refine (HRQ.out _).mono ?_; rintro e w2 ⟨rfl, hb⟩)
       | (go_at_call 12; refine (HRM.out _).mono ?_; rintro e w2 ⟨rfl, hb⟩)
       | (go_at_call_of 15 (Value.int IntKind.i64 1); refine (HO.out _).mono ?_; rintro e w2 ⟨rfl, hb⟩)
       | (go_at_call_of 15 (Value.int IntKind.i64 8); refine (HE.out _).mono ?_; rintro e w2 ⟨rfl, hb⟩; have hone := H.out))
     rename_i hS
     have hB := hS.2.2.2.2.2.2.2.2.2.2
     go_wp2
     go_ret
     exact ⟨rfl, hB⟩)
theorem writes19_walk (q : Qu) (hq1 : q.most < 4294967296) (hq2 : q.ttl < 18446744073709551616) (hq3 : q.tries < 4294967296) (m : Ms) (hm1 : m.tries < 4294967296) (hm2 : m.expiry < 18446744073709551616) (n : Nat) (hn : n < 18446744073709551616) (w : World) :
    Calls Try.prog 3 #[aggQ q, aggM m, .int .u64 n] w fun e w' => e = .returned (.bool true) ∧ Below w.heap.size w w' := by
  by_cases h : 3000 < q.dead.size ∨ 3000 < m.body.size
  · exact writes19_big q m n w h
  · exact writes19_small q ⟨hq1, hq2, hq3, by omega⟩ m ⟨hm1, hm2, by omega⟩ n hn w (by omega) (by omega)
end Go.Proofs.Ytfoijhofpjaldaa
