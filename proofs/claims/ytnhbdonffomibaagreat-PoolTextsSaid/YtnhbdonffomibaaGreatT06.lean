/- Texts of one seat, merged. -/
import Derived.Test.YtnhbdonffomibaaGreatT05
import Derived.RangeFuncNested
import Derived.RangeFuncBound
import Derived.RangeFuncCalls
import Derived.RangeFuncLeaves
import Derived.RangeFuncBox
import Derived.Shelf.Abstract
import Derived.Shelf.RegionOpen
import Derived.WalkKit
import Derived.OwnWalkIn
import Derived.TacticsInMore
import Derived.LoopNIn
import Derived.LoopIn
import Derived.Sort.LoopGhostIn
import Derived.RangeFuncWrites
import Derived.Maps.AppendAt
import Derived.Maps.OwnIn
import Derived.Laws.AppendOwnNone
import Derived.Lib.AppendZeros
import Derived.Deep.RegionLaw
set_option maxRecDepth 100000
set_option maxHeartbeats 4000000
set_option linter.unusedVariables false
/- Rows one by one: slices.Values of texts; a set's texts, each sought anew. -/
namespace Go.Proofs.YtnhbdonffomibaaGreat
open Go.RowKit Go.Sort
open Tx (Rise At Ord above)
attribute [local go_sem] Oper.semAt_some
abbrev WF : Fence := Fence.wide
/-- What goes through a row of texts, each of which a round takes; what the rounds keep. -/
def SeqG (n : Nat) (g : Nat) (lb : Array Value) (G : List Txt → World → Prop) (E : List Txt) : Prop :=
  ∀ (l : Nat) (J : List Txt → World → Prop) (W : World), (∀ pre W, J pre W → G pre W) → (∀ pre W q, J pre W → J pre (W.drewN q)) →
    (∀ pre x W, J pre W → pre.length < E.length → YieldAt WF (n - 1) Tryz.prog l #[.string (str x)] W fun e W' => e = .returned (.bool true) ∧ J (pre ++ [x]) W') → J [] W →
    CallsIn WF n Tryz.prog g (#[.func (.yield l) #[] #[]] ++ lb) W fun e W' => (∃ v, e = .returned v) ∧ J E W'
set_option maxHeartbeats 4000000 in
/-- slices.Values's closure, at a row that stays. -/
theorem vals1_in (n : Nat) (hn : 1 ≤ n) (Bs b off cap : Nat) (zs : List Txt) (hreach : zs.length ≤ 100000) :
    SeqG n 20 #[.pointer (some ⟨Bs, 0, none⟩)] (fun _ W => W.cell? ⟨Bs, 0, none⟩ = some (.slice (some ⟨b, off, none⟩) zs.length cap) ∧ ∀ (j : Nat) x, zs[j]? = some x → W.cell? ⟨b, off + j, none⟩ = some (eS x)) zs := by
  intro l J W hG hJq hY h0
  refine callsIn_of_wp Tryz.func20 rfl trivial ?_ rfl
  simp only [Tryz.ntmps20, List.size_toArray, List.length_cons, List.length_nil, Nat.reduceAdd, Nat.reduceSub, Array.replicate_succ, Array.replicate_zero, List.push_toArray, List.append_toArray, List.nil_append, List.cons_append]
  obtain ⟨hBs, _⟩ := hG _ _ h0
  gi_wp2
  gi_loopw [7] (fun i wr => ∃ k : Nat, k ≤ zs.length ∧ i = .int .i64 k ∧ J (zs.take k) wr)
    (fun i _ => zs.length - (intOf i).toNat)
  case atStart => exact ⟨0, Nat.zero_le _, rfl, h0⟩
  case round =>
    obtain ⟨k, hk, rfl, hJs⟩ := hrel
    by_cases hlt : k < zs.length
    · obtain ⟨x, hx⟩ := some_atP hlt
      have hcx : wr.cell? ⟨b, off + k, none⟩ = some (eS x) := (hG _ _ hJs).2 k x hx
      obtain ⟨fn, tmps, assign, body, hy, hR⟩ := hY _ x wr hJs (by rw [List.length_take]; omega)
      have HT := Lib.hid (Tx.take_snoc hx)
      gi_wp2
      refine hR.mono ?_
      rintro e W3 ⟨rfl, hJ3⟩
      gi_wp2
      go_roundw
      case rel => exact ⟨k + 1, by omega, by go_num, by rw [HT.out]; exact hJ3⟩
      case measure => simp [intOf]; omega
    · obtain rfl : k = zs.length := by omega
      rw [List.take_length] at hJs
      gi_wp2
      go_end0
      exact ⟨⟨_, rfl⟩, hJs⟩
set_option maxHeartbeats 4000000 in
theorem vals1_nil (n : Nat) (hn : 1 ≤ n) (Bs : Nat) (a : Option Addr) (c : Nat) :
    SeqG n 20 #[.pointer (some ⟨Bs, 0, none⟩)] (fun _ W => W.cell? ⟨Bs, 0, none⟩ = some (.slice a 0 c)) [] := by
  intro l J W hG hJq hY h0
  refine callsIn_of_wp Tryz.func20 rfl trivial ?_ rfl
  simp only [Tryz.ntmps20, List.size_toArray, List.length_cons, List.length_nil, Nat.reduceAdd, Nat.reduceSub, Array.replicate_succ, Array.replicate_zero, List.push_toArray, List.append_toArray, List.nil_append, List.cons_append]
  have hBs := hG _ _ h0
  gi_wp2
  gi_loopw [7] (fun i wr => i = .int .i64 0 ∧ J [] wr) (fun _ _ => 0)
  case atStart => exact ⟨rfl, h0⟩
  case round =>
    obtain ⟨rfl, hJs⟩ := hrel
    gi_wp2
    go_end0
    exact ⟨⟨_, rfl⟩, hJs⟩
/-- The two that a set's row asks. -/
structure Asks (W : World) (p b1 b2 : Nat) : Prop where
  c1 : W.cell? ⟨b1, 0, none⟩ = some (.func (.func 25) #[.pointer (some ⟨p, 0, none⟩)] #[])
  c2 : W.cell? ⟨b2, 0, none⟩ = some (.func (.func 26) #[.pointer (some ⟨p, 0, none⟩)] #[])
set_option maxHeartbeats 4000000 in
/-- The row of a set that may be another between two of its texts. -/
theorem row1_in (n : Nat) (hn : 1 ≤ n) (p b1 b2 : Nat) (E : List Txt) (st : Nat → List Txt) (hst : ∀ j, (st j).length ≤ 100000) (hE0 : fst (st 0) = fst E) (hE : ∀ j x t, E.drop j = x :: t → fst (above slt (st (j + 1)) x) = fst t)
    : SeqG n 40 #[.pointer (some ⟨b1, 0, none⟩), .pointer (some ⟨b2, 0, none⟩)] (fun pre W => (∃ B v, SetT W p B v (st pre.length)) ∧ Asks W p b1 b2) E := by
  intro l J W hG hJq hY h0
  refine callsIn_of_wp Tryz.func40 rfl trivial ?_ rfl
  simp only [Tryz.ntmps40, List.size_toArray, List.length_cons, List.length_nil, Nat.reduceAdd, Nat.reduceSub, Array.replicate_succ, Array.replicate_zero, List.push_toArray, List.append_toArray, List.nil_append, List.cons_append]
  have HG0 := Lib.hid (hG _ _ h0)
  obtain ⟨⟨B0, v0, hS0⟩, c1, c2⟩ := HG0.out
  have HL := Lib.hid (sxLeast_any hS0)
  rw [show (st ([] : List Txt).length) = st 0 from rfl, hE0] at HL
  clear hS0
  gi_wp2_with (refine ⟨trivial, ?_⟩; gi_at_call 25; refine (callsIn_wide.2 HL.out).mono ?_; rintro e w1 ⟨rfl, rfl⟩)
  gi_loopg [4, 5] E.length (fun k s4 s5 wr => ∃ pre rest, Hid (E = pre ++ rest) ∧ k = rest.length ∧ s4 = .string (str (fst rest).1) ∧ s5 = .bool (fst rest).2 ∧ Hid (J pre wr))
  case atStart => exact ⟨[], E, rfl, rfl, rfl, rfl, h0⟩
  case round =>
    obtain ⟨pre, rest, HPR, rfl, rfl, rfl, hJs⟩ := hrel
    cases rest with
    | nil =>
      have hfin : Hid (J E wr) := by have := HPR.out; rw [List.append_nil] at this; rw [this]; exact hJs
      have hf : (fst []).2 = false := rfl
      gi_wp2
      go_end0
      exact ⟨⟨_, rfl⟩, hfin.out⟩
    | cons x t =>
      have hf : (fst (x :: t)).2 = true := rfl
      have hf1 : (fst (x :: t)).1 = x := rfl
      rw [hf, hf1]
      obtain ⟨fn, tmps, assign, body, hy, hR⟩ := hY pre x wr hJs.out (by rw [HPR.out]; simp)
      have HN : Hid (fst (above slt (st (pre ++ [x]).length) x) = fst t) := by
        have := hE pre.length x t (by rw [HPR.out, List.drop_left])
        show _ = _
        rw [List.length_append]
        exact this
      gi_wp2
      refine hR.mono ?_
      rintro e W3 ⟨rfl, hJ3⟩
      have HG3 := Lib.hid (hG _ _ hJ3)
      have HJ3 := Lib.hid hJ3
      obtain ⟨⟨B3, v3, hS3⟩, c31, c32⟩ := HG3.out
      have HA := Lib.hid (sxAbove_any hS3 (hst _) x)
      rw [HN.out] at HA
      clear hS3 hJ3
      gi_wp2_with (refine ⟨trivial, ?_⟩; gi_at_call 26; refine (callsIn_wide.2 HA.out).mono ?_; rintro e w4 ⟨rfl, q, rfl⟩)
      go_roundg t.length
      case rel => exact ⟨pre ++ [x], t, by show _ = _; rw [HPR.out]; simp, rfl, rfl, rfl, hJq _ _ _ HJ3.out⟩
      case measure => simp
/-- How a round's body may be left: it goes on. -/
def goesOn (B : Nat) (I : List Txt → World → Prop) (xs : List Txt) (W : World) : Exit → Act → World → Prop
  | .normal, _, W' => KeepsFrom B W W' ∧ I xs W'
  | _, _, _ => False
/-- A range over a row of texts whose body never leaves, and may turn what the row is read from, so long as it keeps what the row asks. -/
theorem rangeG {n : Nat} {g : Operand} {ps : Array Tmp} {assign body : Code} {Q : Exit → Act → World → Prop} {a : Act} {w : World} (h1 : 1 ≤ n) {gf : Nat} {lb : Array Value}
    (hg : a.eval g = .func (.func gf) #[] lb) (eg : ∀ args w, (callFunc gf args).run Tryz.prog w = .ok (.enter gf args) w) {G : List Txt → World → Prop} {E : List Txt} (hseq : SeqG (n - 1) gf lb G E) (hps : 1 = ps.size)
    (I : List Txt → World → Prop) (hI : OwnFrom w.heap.size I) (hIG : ∀ pre W, I pre W → G pre W) (hIq : ∀ pre W q, I pre W → I pre (W.drewN q)) (h0 : I [] w) (a₁ : Txt → Act)
    (hassign : ∀ (l : Nat) (x : Txt) (W : World) (K : Act → World → Prop), K (a₁ x) W →
      assign.wpIn (WF.inRound l) (n - 1 - 1) Tryz.prog (Exit.then K (fun _ _ _ => False)) { tmps := (ps.zip #[.string (str x)]).foldl (fun t (p, v) => t.setIfInBounds p v) a.tmps, defers := [] } W)
    (hbody : ∀ (l : Nat) (pre : List Txt) (x : Txt) (W : World), I pre W → pre.length < E.length → body.wpIn (WF.inRound l) (n - 1 - 1) Tryz.prog (goesOn w.heap.size I (pre ++ [x]) W) (a₁ x) W)
    (hdone : ∀ (D : Nat) (W : World), w.heap.size ≤ D → I E W → W.heap[D]? = some (.deferred (some [])) → Q .normal { a with defers := { target := .collected D, args := #[] } :: a.defers } W) :
    (Code.rangeFunc g ps assign body).wpIn WF n Tryz.prog Q a w := by
  refine wpIn_rangeFunc (fun fn hfn => ?_)
  rw [show WF.round = none from rfl]
  obtain ⟨lp, hlp⟩ : ∃ lp : LoopState → Loop, lp = fun st => { state := st, pending := none, fn, tmps := a.tmps, params := ps, assign, body, defers := w.heap.size } := ⟨_, rfl⟩
  obtain ⟨X, hX⟩ : ∃ X, X = (w.alloc (.deferred (some []))).alloc (.loop (lp .ready)) := ⟨_, rfl⟩
  have xl : X.heap[w.heap.size + 1]? = some (.loop (lp .ready)) := by
    rw [hX]; have := heap_alloc_new (w.alloc (.deferred (some []))) (.loop (lp .ready)); rwa [World.size_alloc] at this
  have xd : X.heap[w.heap.size]? = some (.deferred (some [])) := by
    rw [hX]; exact (Below.heap_alloc _ _ _ (by simp)).trans (heap_alloc_new w _)
  have xs : w.heap.size ≤ X.heap.size := by rw [hX]; simp; omega
  have xi : I [] X := by rw [hX]; exact hI.alloc _ (hI.alloc _ h0)
  refine ⟨w.heap.size + 1, [{ target := .collected w.heap.size, args := #[] }], X, { target := .fn (.func gf) lb, args := #[.func (.yield (w.heap.size + 1)) #[] #[]] }, X, gf, #[.func (.yield (w.heap.size + 1)) #[] #[]] ++ lb, X, ?_, ?_, fun _ _ => trivial, ?_, fun _ => h1, ?_⟩
  · rw [hX, hlp]; exact run_enterLoop_outer _ _ _ _ _
  · simp only [resolve, hg]
    simp [go_sem]
  · simp [invoke, go_sem, eg]
  · refine (hseq (w.heap.size + 1) (fun pre W => I pre W ∧ W.heap[w.heap.size + 1]? = some (.loop (lp .ready)) ∧ W.heap[w.heap.size]? = some (.deferred (some []))) X (fun pre W h => hIG pre W h.1) (fun pre W q h => ⟨hIq pre W q h.1, h.2⟩) ?_ ⟨xi, xl, xd⟩).mono ?_
    · rintro pre x W ⟨hi, hl, hk⟩ hlen
      have hlt : w.heap.size + 1 < W.heap.size := (Array.getElem?_eq_some_iff.1 hl).1
      have hy := run_yield (P := Tryz.prog) (args := #[.string (str x)]) hl (by rw [hlp]; exact hps)
      rw [hlp] at hy
      refine ⟨fn, _, assign, body, hy, roundIn_of_wpIn hfn (hassign _ x W _ ⟨_, run_beginRound hl (by rw [hlp]), ?_⟩)⟩
      obtain ⟨W2, hW2⟩ : ∃ W2, W2 = W.putObj (w.heap.size + 1) (.loop { lp .ready with state := .busy }) := ⟨_, rfl⟩
      have hl2 : W2.heap[w.heap.size + 1]? = some (.loop { lp .ready with state := .busy }) := by rw [hW2]; exact World.putObj_heap_same hlt
      have hk2 : W2.heap[w.heap.size]? = some (.deferred (some [])) := by rw [hW2]; exact (World.putObj_heap_other (by omega)).trans hk
      have hi2 : I pre W2 := by rw [hW2]; exact hI.putObj _ hi (by omega) hl rfl
      rw [← hW2]
      refine wpIn_mono (hbody _ pre x W2 hi2 hlen) ?_
      rintro e a3 W3 hp
      cases e with
      | normal =>
        obtain ⟨hk3, hi3⟩ := hp
        have hl3 := hk3.same _ _ (by omega) hl2 rfl
        have he := run_endRound (P := Tryz.prog) none hl3
        rw [hlp] at he hl3
        refine ⟨_, _, he, rfl, hI.putObj _ hi3 (by omega) hl3 rfl, ?_, (World.putObj_heap_other (by omega)).trans (hk3.same _ _ (Nat.le_refl _) hk2 rfl)⟩
        rw [hlp]; exact World.putObj_heap_same (Array.getElem?_eq_some_iff.1 hl3).1
      | _ => exact hp.elim
    · rintro e W2 ⟨⟨v, rfl⟩, hi, hl, hk⟩
      exact ⟨none, _, by have := run_endLoop (P := Tryz.prog) hl (by rw [hlp]; simp); rw [hlp] at this; exact this, hdone _ _ (Nat.le_refl _) (hI.putObj _ hi (by omega) hl rfl) ((World.putObj_heap_other (by omega)).trans hk)⟩
end Go.Proofs.YtnhbdonffomibaaGreat
/- slices.Values, AppendSeq, Collect, Sorted of texts. -/
namespace Go.Proofs.YtnhbdonffomibaaGreat
open Go.RowKit Go.Sort
attribute [local go_sem] Oper.semAt_some
set_option maxHeartbeats 4000000 in
set_option maxRecDepth 100000 in
theorem sxApp_in (n : Nat) (hn : 3 ≤ n) (g : Nat) (lb : Array Value) (E : List Txt) (hlen : E.length ≤ 100000) (w : World) (G : List Txt → World → Prop) (hseq : ∀ n, 1 ≤ n → SeqG n g lb G E) (eg : ∀ args w, (callFunc g args).run Tryz.prog w = .ok (.enter g args) w) (hG : ∀ pre W, RowKit.Below w.heap.size w W → G pre W) :
    CallsIn WF n Tryz.prog 38 #[.slice none 0 0, .func (.func g) #[] lb] w fun e W' => ∃ v, e = .returned v ∧ RowS W' w.heap.size v E ∧ RowKit.Below w.heap.size w W' := by
  have h1 : 1 ≤ n := by omega
  obtain ⟨i0, hi, hz0, hz1, hz2⟩ := info_parts infoS
  refine callsIn_of_wp_marks Tryz.func38 rfl trivial ?_ rfl
  simp only [Tryz.ntmps38, List.size_toArray, List.length_cons, List.length_nil, Nat.reduceAdd, Nat.reduceSub, Array.replicate_succ, Array.replicate_zero, List.push_toArray, List.append_toArray, List.nil_append, List.cons_append]
  gi_wp2
  have bO := Boxed.new w 22 (.slice none 0 0)
  have hB0 : RowKit.Below w.heap.size w (w.alloc (.cells #[.slice none 0 0] 22)) := (Below.refl _ w).alloc (Nat.le_refl _) _
  refine rangeG h1 (gf := g) (lb := lb) rfl eg (hseq (n - 1) (by omega)) rfl
    (fun pre W => (∃ v, Boxed W w.heap.size 22 v ∧ W.ownsRow w.heap.size 9 1 v pre.length (pre.map eS) ∧ True) ∧ RowKit.Below w.heap.size w W)
    (OwnFrom.and (Own.from (holdsRow_own w.heap.size w.heap.size 22 9 1 (fun pre : List Txt => pre.length) (fun pre => pre.map eS) (fun _ _ => True)) _) (ownFrom_below (Nat.le_refl _) (by simp)))
    (fun pre W h => hG pre W h.2)
    (fun pre W q h => ⟨h.1, below_drewT h.2 q⟩)
    ⟨⟨_, bO, World.ownsRow_nil _ _ _ _, trivial⟩, hB0⟩
    (fun x => { tmps := #[.slice none 0 0, .func (.func g) #[] lb, .pointer (some ⟨w.heap.size, 0, none⟩), undef, .slice none 0 0, .string (str x), .func (.func g) #[] lb, .string (str x), undef, undef, undef, undef, undef], defers := [] }) ?assign ?body ?done
  case assign =>
    intro l x W K hK
    gi_wp2
    exact hK
  case body =>
    rintro l pre x W ⟨⟨v, hv, hrow, _⟩, hB⟩ hlt
    have hc := hv.cell
    gi_wp2_with (gi_at_builtin; refine wpListIn_append_own _ rfl _ _ 22 rfl w.heap.size 9 i0 (.string ⟨#[]⟩) 1 16 Tryz.underlying22 hi hz0 hz1 hz2 rfl (by decide) _ _ _ rfl (hrow.alloc _) ⟨W.heap.size, 0, none⟩ 1 1 [.string (str x)] rfl rfl (cell_one_new _ _ _) (by simp [Value.oneCell']) (by unfold maxLen; omega) (by omega) (by have := hB.size; simp; omega) ?_; intro v' w1 hown' hgrow _; obtain ⟨g', cap', rfl⟩ := ownsRow_succ hown'; obtain ⟨hv1, hv2, hr2, hk2, hb2⟩ := hv.appended (by decide) hrow hB.size (Nat.le_refl _) hown' hgrow; have hc1 := hv1.cell; have hf1 := hv1.frozen)
    exact ⟨hk2.from _, ⟨_, hv2, by simpa using hr2, trivial⟩, hB.trans hb2⟩
  case done =>
    rintro D W hD ⟨⟨v, hv, hrow, _⟩, hB⟩ hK
    have hc := hv.cell
    gi_wp2
    refine ⟨by simp, .inl ⟨_, _, rfl, run_takeDeferred hK, ?_⟩⟩
    exact ⟨_, results_tmp rfl _ _ _, v, rfl, ownsRow_putObj hrow _ hK rfl, hB.trans (belowK_b (w := w) (Nat.le_refl _) W D _ _ (by simp at hD; omega) hK rfl rfl)⟩
theorem sxColl_any (g : Nat) (lb : Array Value) (E : List Txt) (hlen : E.length ≤ 100000) (w : World) (G : List Txt → World → Prop) (hseq : ∀ n, 1 ≤ n → SeqG n g lb G E) (eg : ∀ args w, (callFunc g args).run Tryz.prog w = .ok (.enter g args) w) (hG : ∀ pre W, RowKit.Below w.heap.size w W → G pre W) :
    Calls Tryz.prog 19 #[.func (.func g) #[] lb] w fun e W' => ∃ v, e = .returned v ∧ RowS W' w.heap.size v E ∧ RowKit.Below w.heap.size w W' := by
  have HA := Lib.hid (callsIn_wide.1 (sxApp_in 3 (by omega) g lb E hlen w G hseq eg hG))
  clear hseq hG
  go_enter Tryz.func19, Tryz.ntmps19
  go_wp2_with (go_at_call 38; refine HA.out.mono ?_; rintro e w1 ⟨v1, rfl, hr1, hb1⟩; have HR1 := Lib.hid hr1; have HB1 := Lib.hid hb1; obtain ⟨a1, c1, rfl⟩ := hr1.slice; clear hr1 hb1)
  go_ret
  exact ⟨_, rfl, HR1.out, HB1.out⟩
theorem sxSorted_any (g : Nat) (lb : Array Value) (E : List Txt) (hlen : E.length ≤ 100000) (w : World) (G : List Txt → World → Prop) (hseq : ∀ n, 1 ≤ n → SeqG n g lb G E) (eg : ∀ args w, (callFunc g args).run Tryz.prog w = .ok (.enter g args) w) (hG : ∀ pre W, RowKit.Below w.heap.size w W → G pre W) :
    Calls Tryz.prog 6 #[.func (.func g) #[] lb] w fun e W' => ∃ v, e = .returned v ∧ RowS W' w.heap.size v (srt E) ∧ RowKit.Below w.heap.size w W' := by
  have HA := Lib.hid (sxColl_any g lb E hlen w G hseq eg hG)
  have HL := Lib.hid (srt_len E)
  clear hseq hG
  go_enter Tryz.func6, Tryz.ntmps6
  go_wp2_with (first
    | (go_at_call 19; refine HA.out.mono ?_; rintro e w1 ⟨v1, rfl, hr1, hb1⟩; have HR1 := Lib.hid hr1; have HB1 := Lib.hid hb1; obtain ⟨a1, c1, rfl⟩ := hr1.slice; clear hr1 hb1)
    | (go_at_call 14; refine (sxSort_any _ E hlen _ _ HR1.out).mono ?_; rintro e w2 ⟨rfl, hr2, hb2⟩; have HR2 := Lib.hid hr2; have HB2 := Lib.hid hb2; clear hr2 hb2))
  go_ret
  exact ⟨_, rfl, HR2.out, HB1.out.trans HB2.out⟩
/-- 'slices.Sorted(slices.Values(l))'. -/
theorem sxVals_any (a : Option Addr) (n c : Nat) (w : World) : Calls Tryz.prog 7 #[.slice a n c] w fun e w' => e = .returned (.func (.func 20) #[] #[.pointer (some ⟨w.heap.size, 0, none⟩)]) ∧ w' = w.alloc (.cells #[.slice a n c] 22) := by
  go_enter Tryz.func7, Tryz.ntmps7
  go_wp2
  go_ret
  exact ⟨rfl, rfl⟩
end Go.Proofs.YtnhbdonffomibaaGreat
/- slices.Compact, Equal, Contains, DeleteFunc of texts; a set's rows, ready to be gone through. -/
namespace Go.Proofs.YtnhbdonffomibaaGreat
open Go.RowKit Go.Sort
open Tx (Rise)
theorem cmpn_up (m : List Txt) : ∀ j, j ≤ m.length → Lib.compactUpTo m.toArray j = Tx.cmpn m j
  | 0, _ => rfl
  | 1, h => by
    rw [Lib.compactUpTo_succ, show Lib.compactUpTo m.toArray 0 = [] from rfl, if_pos (by simp [Lib.keeps])]
    cases m with
    | nil => simp at h
    | cons x t => rfl
  | j + 2, h => by
    rw [Lib.compactUpTo_succ, cmpn_up m (j + 1) (by omega)]
    have h1 : m[j + 1]? = some m[j + 1] := List.getElem?_eq_getElem (by omega)
    have h0 : m[j]? = some m[j] := List.getElem?_eq_getElem (by omega)
    have e1 : m.toArray[j + 1]! = m[j + 1] := getB h1
    have e0 : m.toArray[j + 1 - 1]! = m[j] := getB h0
    by_cases he : m[j + 1] = m[j]
    · rw [Lib.keeps_neg (by omega) (by rw [e1, e0]; exact he), if_neg (by simp), List.append_nil, Tx.cmpn_same h1 (by rw [h0, he])]
    · rw [Lib.keeps_pos (by rw [e1, e0]; exact he), if_pos rfl, e1, Tx.cmpn_next h1 h0 he]
theorem strL (t : Txt) : (str t).toList = t := by simp [str, ByteArray.toList_eq]
theorem eqS_at (T : TypeId) : EqlAt Tryz.prog T eS (fun x y => decide (x = y)) :=
  ⟨fun x y w => by
    rw [(EqlAt.string Tryz.prog T).1 (str x) (str y) w]
    show Result.ok (Value.bool (((str x).toList == (str y).toList))) w = Result.ok (Value.bool ((decide (x = y)))) w
    rw [strL, strL]
    by_cases h : x = y <;> simp [h], fun op a b x y w => GuardAt.string Tryz.prog T op a b (str x) (str y) w⟩
theorem neS_at (T : TypeId) : NeqAt Tryz.prog T eS (fun x y => decide (x = y)) :=
  ⟨fun x y w => by
    rw [(NeqAt.string Tryz.prog T).1 (str x) (str y) w]
    show Result.ok (Value.bool (!((str x).toList == (str y).toList))) w = Result.ok (Value.bool (!(decide (x = y)))) w
    rw [strL, strL]
    by_cases h : x = y <;> simp [h], fun op a b x y w => GuardAt.string Tryz.prog T op a b (str x) (str y) w⟩
theorem sxCpt_any (v : Value) (m : List Txt) (hl : m.length ≤ 100000) (B : Nat) (w : World) (hr : RowS w B v m) :
    Calls Tryz.prog 5 #[v] w fun e w' => ∃ v', e = .returned v' ∧ RowS w' B v' (Tx.cmpn m m.length) ∧ Below B w w' := by
  rcases hr.open with ⟨rfl, rfl⟩ | ⟨g, cap, cur, rfl, hB, hg, h1, h2, _⟩
  · have HR := Lib.hid hr
    clear hr
    go_enter Tryz.func5, Tryz.ntmps5
    go_wp2
    go_ret
    exact ⟨_, rfl, HR.out, Below.refl _ _⟩
  · have h := Tryz.slices_Compact eS oneS (eqS_at _) (neS_at _) ([] : Txt) (fun w => Tryz.zeroValue9 w) g 0 cap m.toArray w (hr.holds rfl) (by simp; omega) (by simpa using h1)
    refine h.mono ?_
    rintro e w' ⟨he, q, hw⟩
    have hc : Lib.compactUpTo m.toArray m.toArray.size = Tx.cmpn m m.length := cmpn_up m _ (Nat.le_refl _)
    have hn := Tx.cmpn_len m m.length
    rw [hc] at he hw
    generalize Tx.cmpn m m.length = C at *
    have hF : (C ++ List.replicate (m.toArray.size - C.length) ([] : Txt)).length = m.length := by simp; omega
    obtain ⟨r1, r2⟩ := RowP.put (n := q) (os := #[]) hr _ C.length hF (by simp)
    rw [grow_none] at r1 r2
    rw [List.take_append_of_le_length (Nat.le_refl _), List.take_of_length_le (Nat.le_refl _)] at r1
    exact ⟨_, he, by rw [hw]; exact r1, by rw [hw]; exact r2⟩
theorem allEq_self : ∀ (l : List Txt), Lib.allEq (fun x y => decide (x = y)) l l = true
  | [] => rfl
  | x :: t => by simp [Lib.allEq, allEq_self t]
theorem slS_at {w : World} {a : Option Addr} {c b o : Nat} {l : List Txt} (hx : ∀ (j : Nat) x, l[j]? = some x → w.cell? ⟨b, o + j, none⟩ = some (eS x)) : ∀ j, j < l.length → w.cell? ⟨b, o + j, none⟩ = some (eS l[j]!) := fun j hj => by
  rw [getElem!_pos l j hj]
  exact hx j _ (List.getElem?_eq_getElem hj)
/-- Two rows of the same texts are equal. -/
theorem sxEq_any (v v' : Value) (l : List Txt) (hl : l.length ≤ 100000) (w : World) (hv : SlS w v l) (hv' : SlS w v' l) :
    Calls Tryz.prog 12 #[v, v'] w fun e w' => e = .returned (.bool true) ∧ ∃ q, w' = w.drewN q := by
  obtain ⟨a, b, o, c, rfl, ha, hx⟩ := hv
  obtain ⟨a', b', o', c', rfl, ha', hx'⟩ := hv'
  by_cases h0 : l = []
  · subst h0
    clear ha ha' hx hx'
    have H0 : Hid (∀ W : World, W = W.drewN 0) := fun W => rfl
    go_enter Tryz.func12, Tryz.ntmps12
    go_wp2
    go_loopg [13] 0 (fun k i wr => k = 0 ∧ i = .int .i64 0 ∧ w = wr)
    case atStart => exact ⟨rfl, rfl, rfl⟩
    case round =>
      obtain ⟨rfl, rfl, rfl⟩ := hrel
      go_wp2
      go_ret
      exact ⟨rfl, 0, rfl⟩
  · obtain rfl := ha.resolve_left h0
    obtain rfl := ha'.resolve_left h0
    refine (Tryz.slices_Equal eS (fun x y => decide (x = y)) (neS_at _) b o l.length c b' o' l.length c' l l w (Nat.le_refl _) (Nat.le_refl _) (by omega) (by omega) (slS_at (a := none) (c := 0) hx) (slS_at (a := none) (c := 0) hx')).mono ?_
    rintro e w' ⟨he, hq⟩
    rw [List.take_length, allEq_self] at he
    exact ⟨he, hq⟩
theorem sxCont_any (v : Value) (l : List Txt) (hl : l.length ≤ 100000) (x : Txt) (w : World) (hv : SlS w v l) :
    Calls Tryz.prog 13 #[v, .string (str x)] w fun e w' => e = .returned (.bool (decide (x ∈ l))) ∧ w = w' := by
  obtain ⟨a, b, o, c, rfl, ha, hx⟩ := hv
  by_cases h0 : l = []
  · subst h0
    refine (Tryz.slices_Contains_empty (α := Txt) a c (.string (str x)) w).mono ?_
    rintro e w' ⟨he, hw⟩
    exact ⟨by rw [he]; simp, hw.symm⟩
  · obtain rfl := ha.resolve_left h0
    refine (Tryz.slices_Contains eS (fun x y => decide (x = y)) (eqS_at _) b o l.length c l x w (Nat.le_refl _) (by omega) (slS_at (a := none) (c := 0) hx)).mono ?_
    rintro e w' ⟨he, hw⟩
    refine ⟨?_, hw.symm⟩
    rw [he, List.take_length]
    congr 2
    rw [Bool.eq_iff_iff, List.any_eq_true, decide_eq_true_iff]
    constructor
    · rintro ⟨y, hy, e⟩; rw [of_decide_eq_true e]; exact hy
    · exact fun h => ⟨x, h, decide_eq_true rfl⟩
/-- 'func(x string) bool { return x == remove }'. -/
theorem lawTexts1_any (bx : Nat) (r : Txt) (x : Txt) (w : World) (hb : w.cell? ⟨bx, 0, none⟩ = some (.string (str r))) :
    Calls Tryz.prog 16 #[.string (str x), .pointer (some ⟨bx, 0, none⟩)] w fun e w' => e = .returned (.bool (decide (x = r))) ∧ w' = w := by
  go_enter Tryz.func16, Tryz.ntmps16
  go_wp2
  go_ret
  refine ⟨?_, rfl⟩
  show Ending.returned (Value.bool ((str x).toList == (str r).toList)) = _
  rw [strL, strL]
  by_cases h : x = r <;> simp [h]
theorem sxIdxF_nil (f : Value) (w : World) : Calls Tryz.prog 33 #[.slice none 0 0, f] w fun e w' => e = .returned (.int .i64 (-1)) ∧ w = w' := by
  go_enter Tryz.func33, Tryz.ntmps33
  go_wp2
  go_loopg [8] 0 (fun k i wr => k = 0 ∧ i = .int .i64 0 ∧ w = wr)
  case atStart => exact ⟨rfl, rfl, rfl⟩
  case round =>
    obtain ⟨rfl, rfl, rfl⟩ := hrel
    go_wp2
    go_ret
    exact ⟨rfl, rfl⟩
theorem sxDelF_any (v : Value) (l : List Txt) (hl : l.length ≤ 100000) (B bx : Nat) (r : Txt) (w : World) (hr : RowS w B v l) (hb : w.cell? ⟨bx, 0, none⟩ = some (.string (str r))) (hbx : bx < B) :
    Calls Tryz.prog 15 #[v, .func (.func 16) #[] #[.pointer (some ⟨bx, 0, none⟩)]] w fun e w' => ∃ v', e = .returned v' ∧ RowS w' B v' (l.filter (fun y => !decide (y = r))) ∧ Below B w w' := by
  rcases hr.open with ⟨rfl, rfl⟩ | ⟨g, cap, cur, rfl, hB, hg, h1, h2, _⟩
  · have HR := Lib.hid hr
    clear hr
    go_enter Tryz.func15, Tryz.ntmps15
    go_wp2_with (go_at_call 33; refine (sxIdxF_nil _ _).mono ?_; rintro e w1 ⟨rfl, rfl⟩)
    go_ret
    exact ⟨_, rfl, HR.out, Below.refl _ _⟩
  · have hP : ∀ (W : World), W.cell? ⟨bx, 0, none⟩ = w.cell? ⟨bx, 0, none⟩ → ∀ x, FnGives Tryz.prog 16 #[.pointer (some ⟨bx, 0, none⟩)] #[eS x] (.bool (decide (x = r))) W := fun W hW x => by
      refine (lawTexts1_any bx r x W (hW.trans hb)).mono ?_
      rintro e w' ⟨he, hw⟩
      exact ⟨he, 0, hw⟩
    have hlt := World.block_lt_of_cell? _ _ hb
    have h := Tryz.slices_DeleteFunc eS oneS (fun x => decide (x = r)) 16 #[.pointer (some ⟨bx, 0, none⟩)] (fun args w => by kernel_rfl) ([] : Txt) (fun w => Tryz.zeroValue9 w) g 0 cap l.toArray w
      (fun W x hBW => hP W (hBW.cell (p := ⟨bx, 0, none⟩) hlt) x)
      (fun n os dk x _ => hP _ ((below_putP (os := os) (n := n) dk hB (Array.getElem?_eq_some_iff.1 hg).1).cell (p := ⟨bx, 0, none⟩) hbx) x) (hr.holds rfl) (by simp; omega) (by simpa using h1)
    refine h.mono ?_
    rintro e w' ⟨he, q, hw⟩
    have hn : (l.filter (fun y => !decide (y = r))).length ≤ l.length := List.length_filter_le ..
    have hF : ((l.filter (fun y => !decide (y = r))) ++ List.replicate (l.toArray.size - (l.filter (fun y => !decide (y = r))).length) ([] : Txt)).length = l.length := by simp only [List.length_append, List.length_replicate, List.size_toArray]; omega
    obtain ⟨r1, r2⟩ := RowP.put (n := q) (os := #[]) hr _ (l.filter (fun y => !decide (y = r))).length hF (by simp)
    rw [grow_none] at r1 r2
    rw [List.take_append_of_le_length (Nat.le_refl _), List.take_of_length_le (Nat.le_refl _)] at r1
    exact ⟨_, he, by rw [hw]; exact r1, by rw [hw]; exact r2⟩
theorem sxRow_any (a b : Nat) (u v : Array Value) (w : World) : Calls Tryz.prog 24 #[.func (.func a) u #[], .func (.func b) v #[]] w fun e w' => e = .returned (.func (.func 40) #[] #[.pointer (some ⟨w.heap.size, 0, none⟩), .pointer (some ⟨w.heap.size + 1, 0, none⟩)]) ∧ ∃ T1 T2, w' = (w.alloc (.cells #[.func (.func a) u #[]] T1)).alloc (.cells #[.func (.func b) v #[]] T2) := by
  go_enter Tryz.func24, Tryz.ntmps24
  go_wp2
  go_ret
  exact ⟨rfl, _, _, rfl⟩
/-- All of a set, rising. -/
theorem sxAll_any (p : Nat) (w : World) : Calls Tryz.prog 9 #[.pointer (some ⟨p, 0, none⟩)] w fun e w' => e = .returned (.func (.func 40) #[] #[.pointer (some ⟨w.heap.size, 0, none⟩), .pointer (some ⟨w.heap.size + 1, 0, none⟩)]) ∧ Asks w' p w.heap.size (w.heap.size + 1) ∧ Below w.heap.size w w' := by
  go_enter Tryz.func9, Tryz.ntmps9
  go_wp2_with (go_at_call 24; refine (sxRow_any _ _ _ _ _).mono ?_; rintro e w1 ⟨rfl, T1, T2, hw1⟩; have HW := Lib.hid hw1; clear hw1)
  go_ret
  rw [HW.out]
  refine ⟨rfl, ⟨?_, ?_⟩, ((Below.refl _ _).alloc (Nat.le_refl _) _).alloc (by simp) _⟩
  · exact ((Below.refl _ _).alloc (Nat.le_refl _) _).cell (p := ⟨w.heap.size, 0, none⟩) (by simp) |>.trans (World.cell?_alloc_new w _ _ 0)
  · have := World.cell?_alloc_new (w.alloc (.cells #[.func (.func 25) #[.pointer (some ⟨p, 0, none⟩)] #[]] T1)) #[.func (.func 26) #[.pointer (some ⟨p, 0, none⟩)] #[]] T2 0
    rw [World.size_alloc] at this
    exact this
end Go.Proofs.YtnhbdonffomibaaGreat
/- The state of PoolTexts's loop: what is told so far, the set, all else. -/
namespace Go.Proofs.YtnhbdonffomibaaGreat
open Go.RowKit Go.Sort
open Tx (Rise Ord above)
theorem RowP.stay {α : Type} {enc : α → Value} {t : TypeId} {w w' : World} {B B' : Nat} {v : Value} {l : List α} (h : RowP enc t w B v l) (hlt : ∀ g, v.ownBlock = some g → g < B') (hb : RowKit.Below B' w w') : RowP enc t w' B v l := h.keep (fun g hg => hb.block g (hlt g hg))
theorem SetT.keep {w w' : World} {p B : Nat} {v : Value} {l : List Txt} (h : SetT w p B v l) (hp : w'.heap[p]? = w.heap[p]?) (hv : ∀ g, v.ownBlock = some g → w'.heap[g]? = w.heap[g]?) : SetT w' p B v l :=
  ⟨(cell_same hp 0).trans h.c0, (frozen_same hp 0).trans h.f0, h.row.keep hv, h.rise, h.ne⟩
theorem SetT.blt {w : World} {p B : Nat} {v : Value} {l : List Txt} (h : SetT w p B v l) : p < w.heap.size := World.block_lt_of_cell? _ _ h.c0
theorem cells_at {w : World} {b o : Nat} {u : Value} (h : w.cell? ⟨b, o, none⟩ = some u) : ∃ c e fr, w.heap[b]? = some (Obj.cells c e fr) := by
  obtain ⟨c, e, fr, hb, _⟩ := cells_of_cell? h
  exact ⟨c, e, fr, hb⟩
/-- append of a row of texts to another: as a run equation. -/
theorem appS (w : World) (B B' : Nat) (u v : Value) (l m : List Txt) (ty : TypeId) (hB : B ≤ w.heap.size) (hu : RowS w B u l) (hv : RowS w B' v m) (hl : l.length ≤ 200000) (hm : m.length ≤ 200000) :
    ∃ v' w', (Builtin.append_ #[22, 22] ty #[u, v]).run Tryz.prog w = .ok v' w' ∧ RowS w' B v' (l ++ m) ∧ RowKit.Below B w w' := by
  obtain ⟨i0, hi, hz0, hz1, hz2⟩ := info_parts infoS
  have hb : ∀ w', w.grownBy w' u.ownBlock → RowKit.Below B w w' := fun w' hg => (RowKit.Below.refl _ w).grown hg hB (fun k hk => (hu.lt hk).2)
  rcases hv.open with ⟨rfl, rfl⟩ | ⟨g, cap, cur, rfl, _⟩
  · exact ⟨u, w, run_append_owned_none (P := Tryz.prog) (w := w) B 22 ty 9 i0 1 Tryz.underlying22 hi u l.length (l.map eS) hu, by rw [List.append_nil]; exact hu, RowKit.Below.refl _ _⟩
  · obtain ⟨v', w', hr, h2, h3, _, _⟩ := run_append_own_at (P := Tryz.prog) w B 22 ty 9 i0 _ 1 16 Tryz.underlying22 hi hz0 hz1 hz2 rfl (by decide) u l.length (l.map eS) hu ⟨g, 0, none⟩ m.length cap (m.map eS) (by rw [List.length_map, Nat.mul_one]) (fun j y hj => by
      rw [List.getElem?_map] at hj
      cases hy : m[j]? with
      | none => rw [hy] at hj; cases hj
      | some x =>
        rw [hy] at hj; cases hj
        rw [add_plain', Nat.zero_add]
        exact ((hv.cells rfl).2 j x hy).1) (fun y hy => by obtain ⟨x, _, rfl⟩ := List.mem_map.1 hy; rfl) (by unfold maxLen; omega) (by omega) hB
    refine ⟨v', w', hr, ?_, hb _ h3⟩
    show w'.ownsRow _ _ _ _ _ _
    rw [List.map_append, List.length_append]; exact h2
theorem cutS_none (g n c : Nat) (hn : n ≤ c) (hc : c ≤ n) : ∀ W, (Instr.sliceAt 22 (.slice (some ⟨g, 0, none⟩) n c) (some (.int .i64 (n : Int))) none none).run Tryz.prog W = .ok (.slice (some ⟨g, 0, none⟩) 0 (c - n)) W := by
  intro W
  have hT : Tryz.prog.underlying 22 = some (.slice (Tryz.prog.elem 22)) := by kernel_rfl
  rw [run_sliceAt_slice (h := hT), run_slice_l (ht := hT) (h0 := by omega) (h1 := by omega), sizeS W]
  simp only [Result.andThen, sliced, Int.toNat_natCast]
  rw [if_pos (by omega)]
  simp
/-- append in a region that draws: by its run. -/
theorem step_append_run {P : Program} {ops : Array Oper} {o : Oper} {a : Act} {w : World} {K : Act → World → Prop} {Q : Exit → Act → World → Prop} {E : Prop}
    (hg : o.guard = none) (s x : Operand) (t : TypeId) (hop : o.op = Op.call { callee := Callee.builtin Builtin.append, args := #[s, x], argTypes := #[t, t] })
    (vs vx : Value) (hs : a.eval s = vs) (hx : a.eval x = vx) (v' : Value) (w' : World) (hr : (Builtin.append_ #[t, t] o.type #[vs, vx]).run P w = .ok v' w') (hK : K (a.put o.dst v') w') :
    if Region.wanted o (yielded ops a.tmps) = true then Oper.wp P o a w K Q else E := by
  rw [if_pos (by simp [Region.wanted, hg])]
  exact Lib.wp_append_run w s x t t hop vs vx hs hx v' w' hr hK
/-- A call in a region that draws: by its contract. -/
theorem step_call_run {P : Program} {ops : Array Oper} {o : Oper} {a : Act} {w : World} {K : Act → World → Prop} {Q : Exit → Act → World → Prop} {E : Prop}
    (hg : o.guard = none) (f : Nat) (x y : Operand) (ts : Array TypeId) (hop : o.op = Op.call { callee := Callee.value (Operand.func f), args := #[x, y], argTypes := ts })
    (u v : Value) (hx : a.eval x = u) (hy : a.eval y = v) (eg : ∀ args w, (callFunc f args).run P w = .ok (.enter f args) w) (r : Value) (R : World → Prop) (hc : Calls P f #[u, v] w fun e w' => e = .returned r ∧ R w') (hK : ∀ w', R w' → K (a.put o.dst r) w') :
    if Region.wanted o (yielded ops a.tmps) = true then Oper.wp P o a w K Q else E := by
  rw [if_pos (by simp [Region.wanted, hg])]
  have hrun : (execOp a.eval o).run P w = .ok (.enter f #[u, v]) w := by
    have hfe : a.eval (Operand.func f) = .func (.func f) #[] #[] := rfl
    simp [execOp, hop, resolve, Deferred.ofValue, invoke, hx, hy, hfe, eg]
  unfold Oper.wp
  rw [hrun, Oper.upon_enter]
  exact hc.mono (fun e w' h => by obtain ⟨rfl, hr⟩ := h; exact hK w' hr)
/-- An end that no panic meets. -/
def mild (Q : Exit → Act → World → Prop) : Exit → Act → World → Prop
  | .panic _, _, _ => False
  | e, a, w => Q e a w
theorem mild_le {Q : Exit → Act → World → Prop} {e : Exit} {a : Act} {w : World} (h : mild Q e a w) : Q e a w := by
  cases e <;> first | exact h | exact h.elim
/-- What doesn't change while the loop goes on. -/
structure LC (w5 : World) (p B11 : Nat) (v0 : Value) : Prop where
  p_lt : p < w5.heap.size
  b_lt : B11 < w5.heap.size
  ne : p ≠ B11
  vb : v0.ownBlock ≠ some B11
structure LP (w5 : World) (p B11 Bs : Nat) (v0 : Value) (pre L : List Txt) (vg vs : Value) (W : World) : Prop where
  size : w5.heap.size ≤ W.heap.size
  os : W.os = w5.os
  tape : W.tape = w5.tape
  output : W.output = w5.output
  keep : ∀ j, j < w5.heap.size → j ≠ p → j ≠ B11 → v0.ownBlock ≠ some j → W.heap[j]? = w5.heap[j]?
  c11 : W.cell? ⟨B11, 0, none⟩ = some vg
  f11 : W.frozen? ⟨B11, 0, none⟩ = false
  row : RowS W w5.heap.size vg pre
  set : SetT W p Bs vs L
  ho : vs.ownBlock = v0.ownBlock ∨ ∃ g, vs.ownBlock = some g ∧ w5.heap.size ≤ g
  hd : ∀ g, vg.ownBlock = some g → vs.ownBlock ≠ some g
variable {w5 : World} {p B11 Bs : Nat} {v0 : Value} {pre L L' : List Txt} {vg vs vs' : Value} {W W' : World}
theorem LP.drewN (h : LP w5 p B11 Bs v0 pre L vg vs W) (q : Nat) : LP w5 p B11 Bs v0 pre L vg vs (W.drewN q) :=
  ⟨h.size, h.os, h.tape, h.output, h.keep, h.c11, h.f11, h.row.below (below_drewT (RowKit.Below.refl _ W) q), h.set.drewN q, h.ho, h.hd⟩
/-- Of a world in which all blocks of cells stay. -/
theorem LP.grown (C : LC w5 p B11 v0) (h : LP w5 p B11 Bs v0 pre L vg vs W) {row : Option Nat} (hg : W.grownBy W' row) (hr : ∀ r, row = some r → w5.heap.size ≤ r ∧ ∃ o : Obj, W.heap[r]? = some o ∧ o.isCells = false) : LP w5 p B11 Bs v0 pre L vg vs W' := by
  have hc : ∀ k, (∃ c e fr, W.heap[k]? = some (Obj.cells c e fr)) → W'.heap[k]? = W.heap[k]? := fun k ⟨c, e, fr, hk⟩ => hg.block k (Array.getElem?_eq_some_iff.1 hk).1 (fun he => by
    obtain ⟨_, o, ho, hn⟩ := hr k he.symm
    rw [hk] at ho; cases ho; cases hn)
  have hcR : ∀ (v : Value) (l : List Txt) (B : Nat), RowS W B v l → ∀ g, v.ownBlock = some g → W'.heap[g]? = W.heap[g]? := fun v l B hv g hgv => by
    rcases hv.open with ⟨rfl, _⟩ | ⟨g', cap, cur, rfl, _, hh, _⟩
    · cases hgv
    · cases hgv; exact hc _ ⟨_, _, _, hh⟩
  have k11 := hc B11 (cells_at h.c11)
  refine ⟨Nat.le_trans h.size hg.size, hg.os.trans h.os, hg.tape.trans h.tape, hg.output.trans h.output, fun j h1 h2 h3 h4 => ?_, (cell_same k11 0).trans h.c11, (frozen_same k11 0).trans h.f11, h.row.keep (hcR _ _ _ h.row), h.set.keep (hc p (cells_at h.set.c0)) (hcR _ _ _ h.set.row), h.ho, h.hd⟩
  exact (hg.block j (Nat.lt_of_lt_of_le h1 h.size) (fun he => by have := (hr j he.symm).1; omega)).trans (h.keep j h1 h2 h3 h4)
theorem LP.vs_ne (C : LC w5 p B11 v0) (h : LP w5 p B11 Bs v0 pre L vg vs W) {j : Nat} (hj : j < w5.heap.size) (hv : v0.ownBlock ≠ some j) : vs.ownBlock ≠ some j := fun e => by
  rcases h.ho with ho | ⟨g, h1, h2⟩
  · exact hv (ho ▸ e)
  · rw [h1] at e; cases e; omega
/-- The set is another. -/
theorem LP.step_set (C : LC w5 p B11 v0) (h : LP w5 p B11 Bs v0 pre L vg vs W) (hs : SetT W' p Bs vs' L') (hk : SetK p Bs vs W W') (ho : vs'.ownBlock = vs.ownBlock ∨ ∃ g, vs'.ownBlock = some g ∧ W.heap.size ≤ g) :
    LP w5 p B11 Bs v0 pre L' vg vs' W' := by
  have hsz := h.size
  have k11 := hk.keep B11 (Ne.symm C.ne) (h.vs_ne C C.b_lt C.vb) (Nat.lt_of_lt_of_le C.b_lt hsz)
  refine ⟨Nat.le_trans hsz hk.size, hk.os.trans h.os, hk.tape.trans h.tape, hk.output.trans h.output, fun j h1 h2 h3 h4 => (hk.keep j h2 (h.vs_ne C h1 h4) (Nat.lt_of_lt_of_le h1 hsz)).trans (h.keep j h1 h2 h3 h4), (cell_same k11 0).trans h.c11, (frozen_same k11 0).trans h.f11, h.row.keep (fun g hg => hk.keep g (fun e => by have := (h.row.lt hg).2; have := C.p_lt; omega) (h.hd g hg) (h.row.lt hg).1), hs, ?_, fun g hg e => ?_⟩
  · rcases ho with ho | ⟨g, h1, h2⟩
    · rw [ho]; exact h.ho
    · exact .inr ⟨g, h1, Nat.le_trans hsz h2⟩
  · rcases ho with ho | ⟨g', h1, h2⟩
    · exact h.hd g hg (ho ▸ e)
    · rw [h1] at e; cases e; have := (h.row.lt hg).1; omega
theorem LP.keeps_set (C : LC w5 p B11 v0) (h : LP w5 p B11 Bs v0 pre L vg vs W) (hk : SetK p Bs vs W W') : KeepsFrom w5.heap.size W W' :=
  ⟨hk.size, fun k o hB hko ho => by
    refine (hk.keep k (fun e => by have := C.p_lt; omega) (fun e => ?_) (Array.getElem?_eq_some_iff.1 hko).1).trans hko
    rcases h.set.row.open with ⟨hv, _⟩ | ⟨g', cap, cur, hv, _, hh, _⟩
    · rw [hv] at e; cases e
    · rw [hv] at e; cases e; rw [hh] at hko; cases hko; cases ho⟩
/-- One more is told. -/
theorem LP.push (C : LC w5 p B11 v0) (h : LP w5 p B11 Bs v0 pre L vg vs W) {w1 : World} {v' : Value} {x : Txt} (tmp : Obj) (hown : w1.ownsRow w5.heap.size 9 1 v' (pre.length + 1) (pre.map eS ++ [eS x])) (hgrow : (W.alloc tmp).grownBy w1 vg.ownBlock) (hat : v'.ownBlock = vg.ownBlock ∨ v'.ownBlock = some (W.alloc tmp).heap.size) :
    LP w5 p B11 Bs v0 (pre ++ [x]) L v' vs (w1.setCell ⟨B11, 0, none⟩ v') ∧ KeepsFrom w5.heap.size W (w1.setCell ⟨B11, 0, none⟩ v') ∧ w1.cell? ⟨B11, 0, none⟩ = some vg ∧ w1.frozen? ⟨B11, 0, none⟩ = false := by
  have hsz := h.size
  have hB := C.b_lt
  have hP := C.p_lt
  have hgS := hgrow.size
  rw [World.size_alloc] at hgS hat
  have hr : RowS w1 w5.heap.size v' (pre ++ [x]) := by
    show w1.ownsRow _ _ _ _ _ _
    rw [List.length_append, List.map_append]; exact hown
  have hge : ∀ g, vg.ownBlock = some g → w5.heap.size ≤ g ∧ g < W.heap.size := fun g hg => ⟨(h.row.lt hg).2, (h.row.lt hg).1⟩
  have hA : ∀ k, k < W.heap.size → vg.ownBlock ≠ some k → w1.heap[k]? = W.heap[k]? := fun k hk hne => (hgrow.block k (by simp; omega) (fun e => hne e.symm)).trans (RowKit.Below.heap_alloc W tmp k hk)
  have hS : ∀ k, k < W.heap.size → vg.ownBlock ≠ some k → k ≠ B11 → (w1.setCell ⟨B11, 0, none⟩ v').heap[k]? = W.heap[k]? := fun k hk hne hb => (RowKit.Below.heap_setCell w1 _ v' k hb).trans (hA k hk hne)
  have nb : vg.ownBlock ≠ some B11 := fun e => by have := hge _ e; omega
  have np : vg.ownBlock ≠ some p := fun e => by have := hge _ e; omega
  have k11 := hA B11 (by omega) nb
  have c11 : w1.cell? ⟨B11, 0, none⟩ = some vg := (cell_same k11 0).trans h.c11
  have f11 : w1.frozen? ⟨B11, 0, none⟩ = false := (frozen_same k11 0).trans h.f11
  have vlt : ∀ g, vs.ownBlock = some g → g < W.heap.size := fun g hg => (h.set.row.lt hg).1
  refine ⟨⟨?_, ?_, ?_, ?_, fun j h1 h2 h3 h4 => (hS j (by omega) (fun e => by have := hge _ e; omega) h3).trans (h.keep j h1 h2 h3 h4), World.cell?_setCell_same' _ _ _ (by rw [c11]; rfl), by rw [World.frozen?_setCell]; exact f11, hr.keep (fun g hg => RowKit.Below.heap_setCell w1 _ v' g (fun e => by have := (hr.lt hg).2; have e' : g = B11 := e; omega)), h.set.keep (hS p (by omega) np C.ne) (fun g hg => hS g (vlt g hg) (fun e => h.hd g e hg) (fun e => h.vs_ne C C.b_lt C.vb (e ▸ hg))), h.ho, fun g hg e => ?_⟩, ⟨?_, fun k o hk hko hoc => ?_⟩, c11, f11⟩
  · simp [World.setCell]; omega
  · simpa [World.setCell] using hgrow.os.trans h.os
  · simpa [World.setCell] using hgrow.tape.trans h.tape
  · simpa [World.setCell] using hgrow.output.trans h.output
  · rcases hat with ha | ha
    · exact h.hd g (ha ▸ hg) e
    · rw [ha] at hg; cases hg; have := vlt _ e; omega
  · simp [World.setCell]; omega
  · refine (hS k (Array.getElem?_eq_some_iff.1 hko).1 (fun e => ?_) (by omega)).trans hko
    rcases h.row.open with ⟨hv, _⟩ | ⟨g', cap, cur, hv, _, hh, _⟩
    · rw [hv] at e; cases e
    · rw [hv] at e; cases e; rw [hh] at hko; cases hko; cases hoc
end Go.Proofs.YtnhbdonffomibaaGreat
