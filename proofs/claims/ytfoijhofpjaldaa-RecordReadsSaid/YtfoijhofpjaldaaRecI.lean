/- The document's own records; the chapter's example. -/
import Derived.Test.YtfoijhofpjaldaaRecH
set_option maxRecDepth 100000
set_option maxHeartbeats 4000000
set_option linter.unusedVariables false
namespace Go.Proofs.Ytfoijhofpjaldaa
open Go.RowKit
theorem refQueue_any (q : Qu) (hq : q.ok) (w : World) :
    Calls Try.prog 9 #[aggQ q] w fun e w' => e = .returned (.string (str (1 :: encQ q))) ∧ Below w.heap.size w w' := by
  obtain ⟨nm, a, b, c, s⟩ := q
  obtain ⟨ha, hb, hc, hs⟩ := hq
  simp only at ha hb hc hs
  have hz := big_size
  have hzt := textz s
  have hs4 : s.size < 4294967296 := by omega
  have hq1 : ¬ 9223372036854775807 < 17 + (4 + s.size) := by omega
  have HA := Lib.hid (fun W => big4 (IntKind.u64.wrap a) a (by rw [IntKind.wrap_u64]; omega) ha W)
  have HB := Lib.hid (fun W => big8 b b rfl hb W)
  have HC := Lib.hid (fun W => big4 (IntKind.u64.wrap c) c (by rw [IntKind.wrap_u64]; omega) hc W)
  have HS := Lib.hid (fun W => refText_at s hs4 W)
  have HO := Lib.hid (fun W => big1 1 1 rfl (by decide) W)
  have H : Hid (str (Oc.big 1 1) ++ str (Oc.big 4 a) ++ str (Oc.big 8 b) ++ str (Oc.big 4 c) ++ str (Oc.big 4 s.size ++ s.data.toList) = str (1 :: encQ ⟨nm, a, b, c, s⟩)) := by
    show _ = _
    rw [str_append, str_append, str_append, str_append]; simp only [List.append_assoc]; rfl
  unfold aggQ
  have haI : (a : Int) < 4294967296 := by omega
  have hcI : (c : Int) < 4294967296 := by omega
  clear ha hb hc hs4
  revert H
  generalize encQ ⟨nm, a, b, c, s⟩ = ex
  intro H
  go_enter Try.func9, Try.ntmps9
  go_wp2_with fail
  go_region_held3 (fun w' => w'.cell? ⟨w.heap.size, 0, none⟩ = some (.string nm) ∧ w'.cell? ⟨w.heap.size, 1, none⟩ = some (.int .u32 a) ∧ w'.cell? ⟨w.heap.size, 2, none⟩ = some (.int .u64 b) ∧ w'.cell? ⟨w.heap.size, 3, none⟩ = some (.int .u32 c) ∧ w'.cell? ⟨w.heap.size, 4, none⟩ = some (.string s) ∧ Below w.heap.size w w')
    ((first | assumption | exact In5.step ‹_› hb | exact In5.first _ _ _ _ _ _ _))
    (first
    | (go_at_call_of 15 (Value.int IntKind.i64 1); refine (HO.out _).mono ?_; rintro e w1 ⟨rfl, hb⟩)
    | (go_at_call_of 15 (Value.int IntKind.i64 8); refine (HB.out _).mono ?_; rintro e w1 ⟨rfl, hb⟩)
    | (go_at_call_of 15 (Value.int IntKind.i64 4); with_reducible refine (HA.out _).mono ?_; rintro e w1 ⟨rfl, hb⟩)
    | (go_at_call_of 15 (Value.int IntKind.i64 4); with_reducible refine (HC.out _).mono ?_; rintro e w2 ⟨rfl, hb⟩)
    | (go_at_call 40; refine (HS.out _).mono ?_; rintro e w2 ⟨rfl, hb⟩))
  rename_i hS
  obtain ⟨_, _, _, _, _, hB⟩ := hS
  go_wp2
  go_ret
  exact ⟨ret_string H.out, hB⟩
theorem refMessage_any (m : Ms) (hm : m.ok) (w : World) :
    Calls Try.prog 12 #[aggM m] w fun e w' => e = .returned (.string (str (1 :: encM m))) ∧ Below w.heap.size w w' := by
  obtain ⟨nm, i, a, b, s⟩ := m
  obtain ⟨ha, hb, hs⟩ := hm
  simp only at ha hb hs
  have hz := big_size
  have hzt := textz s
  have hs4 : s.size < 4294967296 := by omega
  have hq1 : ¬ 9223372036854775807 < 13 + (4 + s.size) := by omega
  have HA := Lib.hid (fun W => big4 (IntKind.u64.wrap a) a (by rw [IntKind.wrap_u64]; omega) ha W)
  have HB := Lib.hid (fun W => big8 b b rfl hb W)
  have HS := Lib.hid (fun W => refText_at s hs4 W)
  have HO := Lib.hid (fun W => big1 1 1 rfl (by decide) W)
  have H : Hid (str (Oc.big 1 1) ++ str (Oc.big 4 a) ++ str (Oc.big 8 b) ++ str (Oc.big 4 s.size ++ s.data.toList) = str (1 :: encM ⟨nm, i, a, b, s⟩)) := by
    show _ = _
    rw [str_append, str_append, str_append]; simp only [List.append_assoc]; rfl
  unfold aggM
  have haI : (a : Int) < 4294967296 := by omega
  clear ha hb hs4
  revert H
  generalize encM ⟨nm, i, a, b, s⟩ = ex
  intro H
  go_enter Try.func12, Try.ntmps12
  go_wp2_with fail
  go_region_held3 (fun w' => w'.cell? ⟨w.heap.size, 0, none⟩ = some (.string nm) ∧ w'.cell? ⟨w.heap.size, 1, none⟩ = some (.int .u64 i) ∧ w'.cell? ⟨w.heap.size, 2, none⟩ = some (.int .u32 a) ∧ w'.cell? ⟨w.heap.size, 3, none⟩ = some (.int .u64 b) ∧ w'.cell? ⟨w.heap.size, 4, none⟩ = some (.string s) ∧ Below w.heap.size w w')
    ((first | assumption | exact In5.step ‹_› hb | exact In5.first _ _ _ _ _ _ _))
    (first
    | (go_at_call_of 15 (Value.int IntKind.i64 1); refine (HO.out _).mono ?_; rintro e w1 ⟨rfl, hb⟩)
    | (go_at_call_of 15 (Value.int IntKind.i64 8); refine (HB.out _).mono ?_; rintro e w1 ⟨rfl, hb⟩)
    | (go_at_call_of 15 (Value.int IntKind.i64 4); with_reducible refine (HA.out _).mono ?_; rintro e w1 ⟨rfl, hb⟩)
    | (go_at_call 40; refine (HS.out _).mono ?_; rintro e w2 ⟨rfl, hb⟩))
  rename_i hS
  obtain ⟨_, _, _, _, _, hB⟩ := hS
  go_wp2
  go_ret
  exact ⟨ret_string H.out, hB⟩
theorem readEx : readG 0 getU ⟨#[1, 0, 0, 0, 0, 0, 0, 0, 1]⟩ = (1, 0) := by decide +kernel
theorem CdU.readEx {W : World} {v : Value} (h : CdU W v) :
    Calls Try.prog 21 #[v, .string ⟨#[1, 0, 0, 0, 0, 0, 0, 0, 1]⟩] W fun x w' => x = .returned (.tuple #[.int .u64 1, .int .i64 0]) ∧ Below W.heap.size W w' := by
  have := VerU.read h ⟨#[1, 0, 0, 0, 0, 0, 0, 0, 1]⟩
  rw [Go.Proofs.Ytfoijhofpjaldaa.readEx] at this
  exact this
theorem CdU.bytesEx {W : World} {v : Value} (h : CdU W v) :
    Calls Try.prog 14 #[v, .int .u64 1] W fun x w' => x = .returned (.string ⟨#[1, 0, 0, 0, 0, 0, 0, 0, 1]⟩) ∧ Below W.heap.size W w' := VerU.bytes h 1 (by decide)
theorem awake19 (w : World) : Calls Try.prog 6 #[] w fun e w' => e = .returned (.bool true) ∧ Below w.heap.size w w' := by
  have HC := Lib.hid (fun W => counters_any W)
  go_enter Try.func6, Try.ntmps6
  go_wp2_with (first
    | (go_at_call 14; refine (hv3.bytesEx).mono ?_; rintro e w4 ⟨rfl, hb4⟩)
    | (go_at_call 21; refine (hv1.readEx).mono ?_; rintro e w2 ⟨rfl, hb2⟩)
    | (go_at_call 13; have tok := hb2; refine (HC.out _).mono ?_; rintro e w3 ⟨v3, rfl, hv3, hb3⟩)
    | (go_at_call 13; refine (HC.out _).mono ?_; rintro e w1 ⟨v1, rfl, hv1, hb1⟩))
  go_ret
  exact ⟨rfl, below_step (below_step (below_step hb1 hb2) hb3) hb4⟩
end Go.Proofs.Ytfoijhofpjaldaa
