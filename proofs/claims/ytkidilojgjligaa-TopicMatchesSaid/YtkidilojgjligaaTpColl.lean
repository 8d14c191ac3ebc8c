/- slices.Collect of the words of a text. -/
import Derived.Test.YtkidilojgjligaaTpEach
set_option maxRecDepth 100000
set_option maxHeartbeats 4000000
set_option linter.unusedVariables false
namespace Go.Proofs.Ytkidilojgjligaa
open Go.RowKit
open Tp
attribute [local go_sem] Oper.semAt_some
set_option maxHeartbeats 4000000 in
set_option maxRecDepth 100000 in
theorem app_in (n : Nat) (hn : 3 ≤ n) (B : Nat) (s : Txt) (hs : s.length ≤ 100000) (m : Int) (w : World) (hg : WG B s m w) :
    CallsIn WF n Try.prog 28 #[.slice none 0 0, .func (.func 29) #[] #[.pointer (some ⟨B, 0, none⟩)]] w fun e W' => ∃ v, e = .returned v ∧ RowS W' w.heap.size v (words s) ∧ RowKit.Below w.heap.size w W' := by
  have h1 : 1 ≤ n := by omega
  have hlen := words_len s
  obtain ⟨i0, hi, hz0, hz1, hz2⟩ := info_parts infoS
  have HG := Lib.hid hg
  clear hg
  refine callsIn_of_wp_marks Try.func28 rfl trivial ?_ rfl
  simp only [Try.ntmps28, List.size_toArray, List.length_cons, List.length_nil, Nat.reduceAdd, Nat.reduceSub, Array.replicate_succ, Array.replicate_zero, List.push_toArray, List.append_toArray, List.nil_append, List.cons_append]
  gi_wp2
  have bO := Boxed.new w 25 (.slice none 0 0)
  have hB0 : RowKit.Below w.heap.size w (w.alloc (.cells #[.slice none 0 0] 25)) := (Below.refl _ w).alloc (Nat.le_refl _) _
  refine rangeL h1 (gf := 29) (lb := #[.pointer (some ⟨B, 0, none⟩)]) rfl (fun args w => by kernel_rfl) (words1_in (n - 1) (by omega) B s hs m) rfl
    (fun pre W => (∃ v, Boxed W w.heap.size 25 v ∧ W.ownsRow w.heap.size 9 1 v pre.length (pre.map eS) ∧ True) ∧ RowKit.Below w.heap.size w W) (fun _ _ => False)
    (OwnFrom.and (Own.from (holdsRow_own w.heap.size w.heap.size 25 9 1 (fun pre : List Txt => pre.length) (fun pre => pre.map eS) (fun _ _ => True)) _) (ownFrom_below (Nat.le_refl _) (by simp)))
    (fun _ _ _ _ h _ _ => h.elim)
    (fun pre W h => ⟨(h.2.cell (p := ⟨B, 0, none⟩) (World.block_lt_of_cell? _ _ HG.out.1)).trans HG.out.1, (h.2.cell (p := ⟨0, 0, none⟩) (World.block_lt_of_cell? _ _ HG.out.2)).trans HG.out.2⟩)
    (fun pre W q h => ⟨h.1, below_drewT h.2 q⟩)
    ⟨⟨_, bO, World.ownsRow_nil _ _ _ _, trivial⟩, hB0⟩
    (fun x => { tmps := #[.slice none 0 0, .func (.func 29) #[] #[.pointer (some ⟨B, 0, none⟩)], .pointer (some ⟨w.heap.size, 0, none⟩), undef, .slice none 0 0, .string (str x), .func (.func 29) #[] #[.pointer (some ⟨B, 0, none⟩)], .string (str x), undef, undef, undef, undef, undef], defers := [] }) ?assign ?body ?done ?stop
  case assign =>
    intro l x W K hK
    gi_wp2
    exact hK
  case body =>
    rintro l pre x W ⟨⟨v, hv, hrow, _⟩, hB⟩ hpre
    have hlt := hpre.length_le
    rw [List.length_append, List.length_singleton] at hlt
    clear hpre
    have hc := hv.cell
    gi_wp2_with (gi_at_builtin; refine wpListIn_append_own _ rfl _ _ 25 rfl w.heap.size 9 i0 (.string ⟨#[]⟩) 1 16 Try.underlying25 hi hz0 hz1 hz2 rfl (by decide) _ _ _ rfl (hrow.alloc _) ⟨W.heap.size, 0, none⟩ 1 1 [.string (str x)] rfl rfl (cell_one_new _ _ _) (by simp [Value.oneCell']) (by unfold maxLen; omega) (by omega) (by have := hB.size; simp; omega) ?_; intro v' w1 hown' hgrow _; obtain ⟨g', cap', rfl⟩ := ownsRow_succ hown'; obtain ⟨hv1, hv2, hr2, hk2, hb2⟩ := hv.appended (by decide) hrow hB.size (Nat.le_refl _) hown' hgrow; have hc1 := hv1.cell; have hf1 := hv1.frozen)
    exact ⟨hk2.from _, ⟨_, hv2, by simpa using hr2, trivial⟩, hB.trans hb2⟩
  case done =>
    rintro D W hD ⟨⟨v, hv, hrow, _⟩, hB⟩ hK
    have hc := hv.cell
    gi_wp2
    refine ⟨by simp, .inl ⟨_, _, rfl, run_takeDeferred hK, ?_⟩⟩
    exact ⟨_, results_tmp rfl _ _ _, v, rfl, ownsRow_putObj hrow _ hK rfl, hB.trans (belowK_b (w := w) (Nat.le_refl _) W D _ _ (by simp at hD; omega) hK rfl rfl)⟩
  case stop =>
    intro D pre W hD hX
    exact hX.elim
theorem coll_any (B : Nat) (s : Txt) (hs : s.length ≤ 100000) (m : Int) (w : World) (hg : WG B s m w) :
    Calls Try.prog 14 #[.func (.func 29) #[] #[.pointer (some ⟨B, 0, none⟩)]] w fun e W' => ∃ v, e = .returned v ∧ RowS W' w.heap.size v (words s) ∧ RowKit.Below w.heap.size w W' := by
  have HA := Lib.hid (callsIn_wide.1 (app_in 3 (by omega) B s hs m w hg))
  clear hg
  go_enter Try.func14, Try.ntmps14
  go_wp2_with (go_at_call 28; refine HA.out.mono ?_; rintro e w1 ⟨v1, rfl, hr1, hb1⟩; have HR1 := Lib.hid hr1; have HB1 := Lib.hid hb1; obtain ⟨a1, c1, rfl⟩ := hr1.slice; clear hr1 hb1)
  go_ret
  exact ⟨_, rfl, HR1.out, HB1.out⟩
end Go.Proofs.Ytkidilojgjligaa
