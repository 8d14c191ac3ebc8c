/- The words of a text one by one, and a range over them whose body may return. -/
import Derived.Test.YtkidilojgjligaaTpBase
import Derived.Test.YtkidilojgjligaaShelf
import Derived.RangeFuncNested
import Derived.RangeFuncBound
import Derived.RangeFuncCalls
import Derived.RangeFuncLeaves
import Derived.RangeFuncBox
import Derived.Shelf.Abstract
import Derived.Shelf.RegionOpen
import Derived.WalkKit
import Derived.OwnWalkIn
import Derived.TacticsInMore
import Derived.LoopNIn
import Derived.LoopIn
import Derived.Sort.LoopGhostIn
import Derived.RangeFuncWrites
import Derived.Sort.CutIn
import Derived.BigQuiet
set_option maxRecDepth 100000
set_option maxHeartbeats 4000000
set_option linter.unusedVariables false
namespace Go.Proofs.Ytkidilojgjligaa
open Go.RowKit
open Tp
attribute [local go_sem] Oper.semAt_some
abbrev WF : Fence := Fence.wide
theorem cut_dot : ∀ s : Txt, (Tp.pt s = false ∧ Lib.index s [46] = -1 ∧ Tp.hd s = s ∧ Tp.tl s = []) ∨ (Tp.pt s = true ∧ ∃ i : Nat, Lib.index s [46] = i ∧ Tp.hd s = s.take i ∧ Tp.tl s = s.drop (i + 1))
  | [] => .inl ⟨rfl, rfl, rfl, rfl⟩
  | c :: t => by
    by_cases hc : c = 46
    · subst hc
      exact .inr ⟨by simp [Tp.pt], 0, by simp [Lib.index], by simp [Tp.hd], by simp [Tp.tl]⟩
    · have h1 : (c != 46) = true := by simpa using hc
      have e1 : Tp.hd (c :: t) = c :: Tp.hd t := by simp [Tp.hd, h1]
      have e2 : Tp.tl (c :: t) = Tp.tl t := by simp [Tp.tl, h1]
      have e3 : Tp.pt (c :: t) = Tp.pt t := by unfold Tp.pt; simp [Ne.symm hc]
      have e4 : ([46] : Txt).isPrefixOf (c :: t) = false := by simp [List.isPrefixOf]; exact fun h => hc h.symm
      rw [e1, e2, e3]
      rcases cut_dot t with ⟨h1, h2, h3, h4⟩ | ⟨h1, i, h2, h3, h4⟩
      · refine .inl ⟨h1, ?_, by rw [h3], h4⟩
        rw [Lib.index, e4, h2]; rfl
      · refine .inr ⟨h1, i + 1, ?_, by rw [h3]; rfl, by rw [h4]; rfl⟩
        rw [Lib.index, e4, h2]
        have : ((i : Int) == -1) = false := by rw [beq_eq_false_iff_ne]; omega
        simp [this]
theorem lib_cut (s : Txt) : Lib.cut s [46] = (Tp.hd s, Tp.tl s, Tp.pt s) := by
  unfold Lib.cut
  rcases cut_dot s with ⟨h1, h2, h3, h4⟩ | ⟨h1, i, h2, h3, h4⟩
  · rw [h2, h1, h3, h4, if_neg (by omega)]
  · rw [h2, h1, h3, h4, if_pos (by omega)]; rfl
theorem tl_len (s : Txt) : (Tp.tl s).length ≤ s.length := by
  unfold Tp.tl
  rw [List.length_drop]
  have := (List.dropWhile_suffix (l := s) (fun c => c != 46)).length_le
  omega
theorem tl_lt (s : Txt) (h : Tp.pt s = true) : (Tp.tl s).length < s.length := by
  rcases cut_dot s with ⟨h1, _⟩ | ⟨_, i, h2, _, h4⟩
  · rw [h] at h1; cases h1
  · have hne : s ≠ [] := by rintro rfl; cases h
    rw [h4, List.length_drop]
    have := List.length_pos_iff.2 hne
    omega
theorem cut_any (s : Txt) (hs : s.length ≤ 100000) (m : Int) (w : World) (hm : w.cell? ⟨0, 0, none⟩ = some (.int .i64 m)) :
    Calls Try.prog 30 #[.string (str s), .string ⟨#[46]⟩] w fun e w' => e = .returned (.tuple #[.string (str (Tp.hd s)), .string (str (Tp.tl s)), .bool (Tp.pt s)]) ∧ ∃ q, w' = w.drewN q := by
  have h := Try.strings_Cut (str s) ⟨#[46]⟩ m w (by rw [str_size]; omega) hm
  rw [show (⟨#[46]⟩ : ByteArray).data.toList = [46] from rfl, str_data, lib_cut] at h
  exact h
/-- What goes through a row of texts, each of which a round takes or leaves at. -/
def SeqL (n : Nat) (g : Nat) (lb : Array Value) (G : World → Prop) (E : List Txt) : Prop :=
  ∀ (l : Nat) (J X : List Txt → World → Prop) (W : World), (∀ pre W, J pre W → G W) → (∀ pre W q, J pre W → J pre (W.drewN q)) →
    (∀ pre x W, J pre W → pre ++ [x] <+: E → YieldAt WF (n - 1) Try.prog l #[.string (str x)] W fun e W' => (e = .returned (.bool true) ∧ J (pre ++ [x]) W') ∨ (e = .returned (.bool false) ∧ X (pre ++ [x]) W')) → J [] W →
    CallsIn WF n Try.prog g (#[.func (.yield l) #[] #[]] ++ lb) W fun e W' => (∃ v, e = .returned v) ∧ (J E W' ∨ ∃ pre, X pre W')
/-- What the closure of Words asks of a world. -/
def WG (B : Nat) (s : Txt) (m : Int) (W : World) : Prop := W.cell? ⟨B, 0, none⟩ = some (.string (str s)) ∧ W.cell? ⟨0, 0, none⟩ = some (.int .i64 m)
theorem words_first (s : Txt) : words s = [] ++ (if (decide (s ≠ [])) then parts s else []) := by
  unfold words
  by_cases h : s = [] <;> simp [h]
theorem pre_next {E pre : List Txt} {r : Txt} (h : E = pre ++ (if true then parts r else [])) : E = (pre ++ [Tp.hd r]) ++ (if Tp.pt r then parts (Tp.tl r) else []) := by
  rw [h, if_pos rfl, parts_step r]; simp
theorem hd_len (s : Txt) : (Tp.hd s).length ≤ s.length := by
  unfold Tp.hd
  exact (List.takeWhile_prefix (l := s) (fun c => c != 46)).length_le
set_option maxHeartbeats 4000000 in
/-- The closure of Words. -/
theorem words1_in (n : Nat) (hn : 1 ≤ n) (B : Nat) (s : Txt) (hs : s.length ≤ 100000) (m : Int) : SeqL n 29 #[.pointer (some ⟨B, 0, none⟩)] (WG B s m) (words s) := by
  intro l J X W hG hJq hY h0
  refine callsIn_of_wp Try.func29 rfl trivial ?_ rfl
  simp only [Try.ntmps29, List.size_toArray, List.length_cons, List.length_nil, Nat.reduceAdd, Nat.reduceSub, Array.replicate_succ, Array.replicate_zero, List.push_toArray, List.append_toArray, List.nil_append, List.cons_append]
  obtain ⟨hBs, hm⟩ := hG _ _ h0
  have HE := Lib.hid (words_first s)
  obtain ⟨b0, hb0⟩ : ∃ b0, b0 = decide (s ≠ []) := ⟨_, rfl⟩
  have he : (!(str s).toList.isEmpty) = b0 := by rw [hb0, strL]; cases s <;> rfl
  rw [← hb0] at HE
  clear hb0
  gi_wp2_with fail
  gi_quiet (fail)
  gi_wp2_with fail
  clear he
  gi_loopg [4, 5] (if b0 then s.length + 2 else 1) (fun g v4 v5 wr => ∃ (pre : List Txt) (r : Txt) (b : Bool), Hid (words s = pre ++ (if b then parts r else [])) ∧ r.length ≤ s.length ∧ (g = if b then r.length + 2 else 1) ∧ v4 = .string (str r) ∧ v5 = .bool b ∧ Hid (J pre wr))
  case atStart => exact ⟨[], s, b0, HE.out, Nat.le_refl _, rfl, rfl, rfl, hJq _ _ _ h0⟩
  case round =>
    obtain ⟨pre, r, b, HR, hr, rfl, rfl, rfl, HJ⟩ := hrel
    cases b with
    | false =>
      have HF : Hid (J (words s) wr) := by show J _ _; rw [HR.out]; simpa using HJ.out
      gi_wp2
      go_end0
      exact ⟨⟨_, rfl⟩, .inl HF.out⟩
    | true =>
      have HP := Lib.hid (pre_next HR.out)
      have hlt := tl_len r
      have HC := Lib.hid (cut_any r (by omega) m wr (hG _ _ HJ.out).2)
      have HY : Hid (∀ W1, J pre W1 → YieldAt WF (n - 1) Try.prog l #[.string (str (Tp.hd r))] W1 fun e W' => (e = .returned (.bool true) ∧ J (pre ++ [Tp.hd r]) W') ∨ (e = .returned (.bool false) ∧ X (pre ++ [Tp.hd r]) W')) := fun W1 hj => hY pre _ W1 hj ⟨_, HP.out.symm⟩
      gi_upto_region 3 with (refine ⟨trivial, ?_⟩; gi_at_call 30; refine (callsIn_wide.2 HC.out).mono ?_; rintro e w1 ⟨rfl, q, rfl⟩)
      obtain ⟨fn, tmps, assign, body, hy, hR⟩ := HY.out _ (hJq _ _ q HJ.out)
      have HD := Lib.hid (⟨hr, hlt⟩ : r.length ≤ s.length ∧ (Tp.tl r).length ≤ r.length)
      clear hr hlt
      gi_wp2
      refine hR.mono ?_
      rintro e W3 (⟨rfl, h3⟩ | ⟨rfl, h3⟩)
      · have HJ3 := Lib.hid h3
        clear h3
        gi_wp2
        go_roundg (if Tp.pt r then (Tp.tl r).length + 2 else 1)
        case rel => exact ⟨pre ++ [Tp.hd r], Tp.tl r, Tp.pt r, HP.out, by have := HD.out; omega, rfl, rfl, rfl, HJ3⟩
        case measure => have := HD.out; have h5 := tl_lt r; cases hq : Tp.pt r <;> simp; exact h5 hq
      · have HX3 := Lib.hid h3
        clear h3
        gi_wp2
        exact bodyPost_ret (results_none rfl _ _ _) rfl ⟨⟨_, rfl⟩, .inr ⟨_, HX3.out⟩⟩
/-- How a round's body may be left: it goes on, or returns. -/
def goesOr (B : Nat) (I X : List Txt → World → Prop) (xs : List Txt) (W : World) : Exit → Act → World → Prop
  | .normal, _, W' => KeepsFrom B W W' ∧ I xs W'
  | .ret, _, W' => KeepsFrom B W W' ∧ X xs W'
  | _, _, _ => False
/-- A range over a row of texts whose body goes on or returns. -/
theorem rangeL {n : Nat} {g : Operand} {ps : Array Tmp} {assign body : Code} {Q : Exit → Act → World → Prop} {a : Act} {w : World} (h1 : 1 ≤ n) {gf : Nat} {lb : Array Value}
    (hg : a.eval g = .func (.func gf) #[] lb) (eg : ∀ args w, (callFunc gf args).run Try.prog w = .ok (.enter gf args) w) {G : World → Prop} {E : List Txt} (hseq : SeqL (n - 1) gf lb G E) (hps : 1 = ps.size)
    (I X : List Txt → World → Prop) (hI : OwnFrom w.heap.size I) (hX : OwnFrom w.heap.size X) (hIG : ∀ pre W, I pre W → G W) (hIq : ∀ pre W q, I pre W → I pre (W.drewN q)) (h0 : I [] w) (a₁ : Txt → Act)
    (hassign : ∀ (l : Nat) (x : Txt) (W : World) (K : Act → World → Prop), K (a₁ x) W →
      assign.wpIn (WF.inRound l) (n - 1 - 1) Try.prog (Exit.then K (fun _ _ _ => False)) { tmps := (ps.zip #[.string (str x)]).foldl (fun t (p, v) => t.setIfInBounds p v) a.tmps, defers := [] } W)
    (hbody : ∀ (l : Nat) (pre : List Txt) (x : Txt) (W : World), I pre W → pre ++ [x] <+: E → body.wpIn (WF.inRound l) (n - 1 - 1) Try.prog (goesOr w.heap.size I X (pre ++ [x]) W) (a₁ x) W)
    (hdone : ∀ (D : Nat) (W : World), w.heap.size ≤ D → I E W → W.heap[D]? = some (.deferred (some [])) → Q .normal { a with defers := { target := .collected D, args := #[] } :: a.defers } W)
    (hstop : ∀ (D : Nat) (pre : List Txt) (W : World), w.heap.size ≤ D → X pre W → W.heap[D]? = some (.deferred (some [])) → (Code.ret).wpIn WF n Try.prog Q { a with defers := { target := .collected D, args := #[] } :: a.defers } W) :
    (Code.rangeFunc g ps assign body).wpIn WF n Try.prog Q a w := by
  refine wpIn_rangeFunc (fun fn hfn => ?_)
  rw [show WF.round = none from rfl]
  obtain ⟨lp, hlp⟩ : ∃ lp : LoopState → Option Code → Loop, lp = fun st pe => { state := st, pending := pe, fn, tmps := a.tmps, params := ps, assign, body, defers := w.heap.size } := ⟨_, rfl⟩
  obtain ⟨X0, hX0⟩ : ∃ X0, X0 = (w.alloc (.deferred (some []))).alloc (.loop (lp .ready none)) := ⟨_, rfl⟩
  have xl : X0.heap[w.heap.size + 1]? = some (.loop (lp .ready none)) := by
    rw [hX0]; have := heap_alloc_new (w.alloc (.deferred (some []))) (.loop (lp .ready none)); rwa [World.size_alloc] at this
  have xd : X0.heap[w.heap.size]? = some (.deferred (some [])) := by
    rw [hX0]; exact (Below.heap_alloc _ _ _ (by simp)).trans (heap_alloc_new w _)
  have xs : w.heap.size ≤ X0.heap.size := by rw [hX0]; simp; omega
  have xi : I [] X0 := by rw [hX0]; exact hI.alloc _ (hI.alloc _ h0)
  refine ⟨w.heap.size + 1, [{ target := .collected w.heap.size, args := #[] }], X0, { target := .fn (.func gf) lb, args := #[.func (.yield (w.heap.size + 1)) #[] #[]] }, X0, gf, #[.func (.yield (w.heap.size + 1)) #[] #[]] ++ lb, X0, ?_, ?_, fun _ _ => trivial, ?_, fun _ => h1, ?_⟩
  · rw [hX0, hlp]; exact run_enterLoop_outer _ _ _ _ _
  · simp only [resolve, hg]
    simp [go_sem]
  · simp [invoke, go_sem, eg]
  · refine (hseq (w.heap.size + 1) (fun pre W => I pre W ∧ W.heap[w.heap.size + 1]? = some (.loop (lp .ready none)) ∧ W.heap[w.heap.size]? = some (.deferred (some [])))
      (fun pre W => X pre W ∧ W.heap[w.heap.size + 1]? = some (.loop (lp .done (some .ret))) ∧ W.heap[w.heap.size]? = some (.deferred (some []))) X0 (fun pre W h => hIG pre W h.1) (fun pre W q h => ⟨hIq pre W q h.1, h.2⟩) ?_ ⟨xi, xl, xd⟩).mono ?_
    · rintro pre x W ⟨hi, hl, hk⟩ hlen
      have hlt : w.heap.size + 1 < W.heap.size := (Array.getElem?_eq_some_iff.1 hl).1
      have hy := run_yield (P := Try.prog) (args := #[.string (str x)]) hl (by rw [hlp]; exact hps)
      rw [hlp] at hy
      refine ⟨fn, _, assign, body, hy, roundIn_of_wpIn hfn (hassign _ x W _ ⟨_, run_beginRound hl (by rw [hlp]), ?_⟩)⟩
      obtain ⟨W2, hW2⟩ : ∃ W2, W2 = W.putObj (w.heap.size + 1) (.loop { lp .ready none with state := .busy }) := ⟨_, rfl⟩
      have hl2 : W2.heap[w.heap.size + 1]? = some (.loop { lp .ready none with state := .busy }) := by rw [hW2]; exact World.putObj_heap_same hlt
      have hk2 : W2.heap[w.heap.size]? = some (.deferred (some [])) := by rw [hW2]; exact (World.putObj_heap_other (by omega)).trans hk
      have hi2 : I pre W2 := by rw [hW2]; exact hI.putObj _ hi (by omega) hl rfl
      rw [← hW2]
      refine wpIn_mono (hbody _ pre x W2 hi2 hlen) ?_
      rintro e a3 W3 hp
      cases e with
      | normal =>
        obtain ⟨hk3, hi3⟩ := hp
        have hl3 := hk3.same _ _ (by omega) hl2 rfl
        have he := run_endRound (P := Try.prog) none hl3
        rw [hlp] at he hl3
        refine ⟨_, _, he, .inl ⟨rfl, hI.putObj _ hi3 (by omega) hl3 rfl, ?_, (World.putObj_heap_other (by omega)).trans (hk3.same _ _ (Nat.le_refl _) hk2 rfl)⟩⟩
        rw [hlp]; exact World.putObj_heap_same (Array.getElem?_eq_some_iff.1 hl3).1
      | ret =>
        obtain ⟨hk3, hi3⟩ := hp
        have hl3 := hk3.same _ _ (by omega) hl2 rfl
        have he := run_endRound (P := Try.prog) (some .ret) hl3
        rw [hlp] at he hl3
        refine ⟨_, _, he, .inr ⟨rfl, hX.putObj _ hi3 (by omega) hl3 rfl, ?_, (World.putObj_heap_other (by omega)).trans (hk3.same _ _ (Nat.le_refl _) hk2 rfl)⟩⟩
        rw [hlp]; exact World.putObj_heap_same (Array.getElem?_eq_some_iff.1 hl3).1
      | _ => exact hp.elim
    · rintro e W2 ⟨⟨v, rfl⟩, ⟨hi, hl, hk⟩ | ⟨pre, hi, hl, hk⟩⟩
      · exact ⟨none, _, by have := run_endLoop (P := Try.prog) hl (by rw [hlp]; simp); rw [hlp] at this; exact this, hdone _ _ (Nat.le_refl _) (hI.putObj _ hi (by omega) hl rfl) ((World.putObj_heap_other (by omega)).trans hk)⟩
      · exact ⟨some .ret, _, by have := run_endLoop (P := Try.prog) hl (by rw [hlp]; simp); rw [hlp] at this; exact this, hstop _ pre _ (Nat.le_refl _) (hX.putObj _ hi (by omega) hl rfl) ((World.putObj_heap_other (by omega)).trans hk)⟩
end Go.Proofs.Ytkidilojgjligaa
