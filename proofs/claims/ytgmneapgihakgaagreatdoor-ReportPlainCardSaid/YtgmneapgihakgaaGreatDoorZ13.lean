/- Texts of one seat, merged. -/
import Derived.Test.YtgmneapgihakgaaGreatDoorZ12
import Derived.Test.YtgmneapgihakgaaGreatDoorZ04
import Derived.Test.YtgmneapgihakgaaGreatDoorZ03
import Derived.Laws.EntriesVeiled
import Derived.BigQuiet
import Derived.Deep.QuietTactic
import Derived.Deep.RegionHeld3
set_option maxRecDepth 100000
set_option maxHeartbeats 4000000
set_option linter.unusedVariables false
/- Rows that make boxes of their own in each round: whoever goes through them owns what is there only. -/
namespace Go.Proofs.YtgmneapgihakgaaGreatDoor
open Go.RowKit
/-- As SeqF; whoever goes through the row owns blocks that are there. -/
def SeqB {α : Type} (encs : α → Array Value) (n : Nat) (g : Nat) (lb : Array Value) (G : World → Prop) (E : List α) : Prop :=
  ∀ (l : Nat) (J X : List α → (Nat → Prop) → World → Prop) (W : World) (M0 : Nat → Prop),
    (∀ pre M A, J pre M A → ∀ k, M k → k < A.heap.size) →
    (∀ pre M A B, J pre M A → Stays (fun k => M k ∨ k < W.heap.size) A B → J pre M B) →
    (∀ pre M A B, X pre M A → Stays (fun k => M k ∨ k < W.heap.size) A B → X pre M B) →
    (∀ pre M A, J pre M A → G A) →
    (∀ pre x M A, J pre M A → pre ++ [x] <+: E → YieldAt WF (n - 1) Tryz.prog l (encs x) A fun e A' => ∃ M', Went M M' A A' ∧ ((e = .returned (.bool true) ∧ J (pre ++ [x]) M' A') ∨ (e = .returned (.bool false) ∧ X (pre ++ [x]) M' A'))) →
    J [] M0 W → (∀ k, M0 k → k < W.heap.size) →
    CallsIn WF n Tryz.prog g (#[.func (.yield l) #[] #[]] ++ lb) W fun e W' => (∃ v, e = .returned v) ∧ Stays (fun k => ¬ M0 k) W W' ∧ ∃ M', (∀ k, M' k → M0 k ∨ W.heap.size ≤ k) ∧ (J E M' W' ∨ ∃ pre, X pre M' W')
theorem SeqF.seqB {α : Type} {encs : α → Array Value} {n : Nat} {g : Nat} {lb : Array Value} {G : World → Prop} {E : List α} (h : SeqF encs n g lb G E) : SeqB encs n g lb G E :=
  fun l J X W M0 _ h1 h2 h3 h4 h5 h6 => h l J X W M0 h1 h2 h3 h4 h5 h6
set_option maxHeartbeats 4000000 in
/-- As rangeA; the row may make boxes; the code ahead of a round may make memory (a variable that lies in a box). -/
theorem rangeB {α : Type} {encs : α → Array Value} {n : Nat} {g : Operand} {ps : Array Tmp} {assign body : Code} {Q : Exit → Act → World → Prop} {a : Act} {w : World} (h1 : 1 ≤ n) {gf : Nat} {lb : Array Value}
    (hg : a.eval g = .func (.func gf) #[] lb) (eg : ∀ args w, (callFunc gf args).run Tryz.prog w = .ok (.enter gf args) w) {G : World → Prop} {E : List α} (hseq : SeqB encs (n - 1) gf lb G E) (hps : ∀ x, (encs x).size = ps.size)
    (I X : List α → (Nat → Prop) → World → Prop) (M0 : Nat → Prop) (hM0 : ∀ k, M0 k → k < w.heap.size)
    (hI : ∀ pre M A B, I pre M A → Stays (fun k => M k ∨ k < w.heap.size) A B → I pre M B) (hX : ∀ pre M A B, X pre M A → Stays (fun k => M k ∨ k < w.heap.size) A B → X pre M B)
    (hIb : ∀ pre M A, I pre M A → ∀ k, M k → k < A.heap.size) (hIG : ∀ pre M A, I pre M A → G A) (h0 : I [] M0 w) (Ax : α → Act → World → Prop) (hAx : ∀ x a' A B, Ax x a' A → Stays (fun k => w.heap.size + 2 ≤ k) A B → Ax x a' B)
    (hassign : ∀ (l : Nat) (x : α) (W : World) (K : Act → World → Prop), w.heap.size + 2 ≤ W.heap.size → (∀ a' W', Below W.heap.size W W' → Ax x a' W' → K a' W') →
      assign.wpIn (WF.inRound l) (n - 1 - 1) Tryz.prog (Exit.then K (fun _ _ _ => False)) { tmps := (ps.zip (encs x)).foldl (fun t (p, v) => t.setIfInBounds p v) a.tmps, defers := [] } W)
    (hbody : ∀ (l : Nat) (pre : List α) (x : α) (M : Nat → Prop) (a' : Act) (W : World), I pre M W → Ax x a' W → w.heap.size ≤ W.heap.size → pre ++ [x] <+: E → body.wpIn (WF.inRound l) (n - 1 - 1) Tryz.prog (goesF I X (pre ++ [x]) M W) a' W)
    (hdone : ∀ (D : Nat) (M : Nat → Prop) (W : World), w.heap.size ≤ D → ¬ M D → I E M W → Stays (fun k => ¬ M0 k) w W → (∀ k, M k → M0 k ∨ w.heap.size ≤ k) → W.heap[D]? = some (.deferred (some [])) → Q .normal { a with defers := { target := .collected D, args := #[] } :: a.defers } W)
    (hstop : ∀ (D : Nat) (pre : List α) (M : Nat → Prop) (W : World), w.heap.size ≤ D → ¬ M D → X pre M W → Stays (fun k => ¬ M0 k) w W → (∀ k, M k → M0 k ∨ w.heap.size ≤ k) → W.heap[D]? = some (.deferred (some [])) → (Code.ret).wpIn WF n Tryz.prog Q { a with defers := { target := .collected D, args := #[] } :: a.defers } W) :
    (Code.rangeFunc g ps assign body).wpIn WF n Tryz.prog Q a w := by
  refine wpIn_rangeFunc (fun fn hfn => ?_)
  rw [show WF.round = none from rfl]
  obtain ⟨lp, hlp⟩ : ∃ lp : LoopState → Option Code → Loop, lp = fun st pe => { state := st, pending := pe, fn, tmps := a.tmps, params := ps, assign, body, defers := w.heap.size } := ⟨_, rfl⟩
  obtain ⟨X0, hX0⟩ : ∃ X0, X0 = (w.alloc (.deferred (some []))).alloc (.loop (lp .ready none)) := ⟨_, rfl⟩
  have xl : X0.heap[w.heap.size + 1]? = some (.loop (lp .ready none)) := by
    rw [hX0]; have := heap_alloc_new (w.alloc (.deferred (some []))) (.loop (lp .ready none)); rwa [World.size_alloc] at this
  have xd : X0.heap[w.heap.size]? = some (.deferred (some [])) := by
    rw [hX0]; exact (Below.heap_alloc _ _ _ (by simp)).trans (heap_alloc_new w _)
  have xs : X0.heap.size = w.heap.size + 2 := by rw [hX0]; simp
  have xb : Below w.heap.size w X0 := by rw [hX0]; exact ((Below.refl _ _).alloc (Nat.le_refl _) _).alloc (by simp) _
  have xi : I [] M0 X0 := hI _ _ _ _ h0 (Stays.below xb)
  refine ⟨w.heap.size + 1, [{ target := .collected w.heap.size, args := #[] }], X0, { target := .fn (.func gf) lb, args := #[.func (.yield (w.heap.size + 1)) #[] #[]] }, X0, gf, #[.func (.yield (w.heap.size + 1)) #[] #[]] ++ lb, X0, ?_, ?_, fun _ _ => trivial, ?_, fun _ => h1, ?_⟩
  · rw [hX0, hlp]; exact run_enterLoop_outer _ _ _ _ _
  · simp only [resolve, hg]
    simp [go_sem]
  · simp [invoke, go_sem, eg]
  · -- a set of blocks without the record's two; with them
    let Mj : (Nat → Prop) → Nat → Prop := fun M k => M k ∨ k = w.heap.size ∨ k = w.heap.size + 1
    refine (hseq (w.heap.size + 1)
      (fun pre N A => ∃ M, (∀ k, N k ↔ Mj M k) ∧ I pre M A ∧ ¬ M w.heap.size ∧ ¬ M (w.heap.size + 1) ∧ A.heap[w.heap.size + 1]? = some (.loop (lp .ready none)) ∧ A.heap[w.heap.size]? = some (.deferred (some [])))
      (fun pre N A => ∃ M, (∀ k, N k ↔ Mj M k) ∧ X pre M A ∧ ¬ M w.heap.size ∧ ¬ M (w.heap.size + 1) ∧ A.heap[w.heap.size + 1]? = some (.loop (lp .done (some .ret))) ∧ A.heap[w.heap.size]? = some (.deferred (some [])))
      X0 (Mj M0) ?_ ?_ ?_ ?_ ?_ ⟨M0, fun _ => Iff.rfl, xi, fun h => Nat.lt_irrefl _ (hM0 _ h), fun h => by have := hM0 _ h; omega, xl, xd⟩ ?_).mono ?_
    · rintro pre N A ⟨M, hN, hi, n1, n2, hl, hd⟩ k hk
      have lt1 := (Array.getElem?_eq_some_iff.1 hl).1
      rcases (hN k).1 hk with h | h | h
      · exact hIb _ _ _ hi k h
      · omega
      · omega
    · rintro pre N A B ⟨M, hN, hi, n1, n2, hl, hd⟩ hs
      have lt1 := (Array.getElem?_eq_some_iff.1 hl).1
      have lt0 := (Array.getElem?_eq_some_iff.1 hd).1
      exact ⟨M, hN, hI _ _ _ _ hi (hs.sub (fun k hk _ => hk.elim (fun h => .inl ((hN k).2 (.inl h))) (fun h => .inr (by omega)))), n1, n2, (hs.same _ (.inl ((hN _).2 (.inr (.inr rfl)))) lt1).trans hl, (hs.same _ (.inl ((hN _).2 (.inr (.inl rfl)))) lt0).trans hd⟩
    · rintro pre N A B ⟨M, hN, hi, n1, n2, hl, hd⟩ hs
      have lt1 := (Array.getElem?_eq_some_iff.1 hl).1
      have lt0 := (Array.getElem?_eq_some_iff.1 hd).1
      exact ⟨M, hN, hX _ _ _ _ hi (hs.sub (fun k hk _ => hk.elim (fun h => .inl ((hN k).2 (.inl h))) (fun h => .inr (by omega)))), n1, n2, (hs.same _ (.inl ((hN _).2 (.inr (.inr rfl)))) lt1).trans hl, (hs.same _ (.inl ((hN _).2 (.inr (.inl rfl)))) lt0).trans hd⟩
    · rintro pre N A ⟨M, _, hi, _⟩
      exact hIG _ _ _ hi
    · rintro pre x N A ⟨M, hN, hi, n1, n2, hl, hd⟩ hpre
      have lt1 := (Array.getElem?_eq_some_iff.1 hl).1
      have lt0 := (Array.getElem?_eq_some_iff.1 hd).1
      have hy := run_yield (P := Tryz.prog) (args := encs x) hl (by rw [hlp]; exact hps x)
      rw [hlp] at hy
      refine ⟨fn, _, assign, body, hy, roundIn_of_wpIn hfn (hassign _ x A _ (by omega) (fun a' Aa hba hax => ?_))⟩
      have hAA : ∀ C : Nat → Prop, Stays C A Aa := fun C => Stays.below hba
      have szA : A.heap.size ≤ Aa.heap.size := hba.size
      have hAi : I pre M Aa := hI _ _ _ _ hi (hAA _)
      have hlA : Aa.heap[w.heap.size + 1]? = some (.loop (lp .ready none)) := (hba.block _ lt1).trans hl
      have hdA : Aa.heap[w.heap.size]? = some (.deferred (some [])) := (hba.block _ lt0).trans hd
      have lt1A : w.heap.size + 1 < Aa.heap.size := by omega
      refine ⟨_, run_beginRound hlA (by rw [hlp]), ?_⟩
      obtain ⟨W2, hW2⟩ : ∃ W2, W2 = Aa.putObj (w.heap.size + 1) (.loop { lp .ready none with state := .busy }) := ⟨_, rfl⟩
      have hl2 : W2.heap[w.heap.size + 1]? = some (.loop { lp .ready none with state := .busy }) := by rw [hW2]; exact World.putObj_heap_same lt1A
      have hd2 : W2.heap[w.heap.size]? = some (.deferred (some [])) := by rw [hW2]; exact (World.putObj_heap_other (by omega)).trans hdA
      have sz2 : A.heap.size ≤ W2.heap.size := by rw [hW2]; simp; omega
      have s2' : ∀ C : Nat → Prop, ¬ C (w.heap.size + 1) → Stays C Aa W2 := fun C hC => by rw [hW2]; exact Stays.put _ _ _ hC
      have s2 : ∀ C : Nat → Prop, ¬ C (w.heap.size + 1) → Stays C A W2 := fun C hC => (hAA C).trans (s2' C hC)
      have hi2 : I pre M W2 := hI _ _ _ _ hAi (s2' _ (fun h => h.elim n2 (fun h => by omega)))
      have hax2 : Ax x a' W2 := hAx _ _ _ _ hax (s2' _ (fun h => by omega))
      rw [← hW2]
      refine wpIn_mono (hbody _ pre x M a' W2 hi2 hax2 (by omega) hpre) ?_
      -- behind the body
      have fin : ∀ (jump : Option Code) (M' : Nat → Prop) (W3 : World), Went M M' W2 W3 →
          (Instr.endRound (w.heap.size + 1) jump).run Tryz.prog W3 = .ok (.bool jump.isNone) (W3.putObj (w.heap.size + 1) (.loop (lp (if jump.isNone then .ready else .done) jump))) ∧
          ¬ M' w.heap.size ∧ ¬ M' (w.heap.size + 1) ∧ Stays (fun k => M' k ∨ k < w.heap.size) W3 (W3.putObj (w.heap.size + 1) (.loop (lp (if jump.isNone then .ready else .done) jump))) ∧
          (W3.putObj (w.heap.size + 1) (.loop (lp (if jump.isNone then .ready else .done) jump))).heap[w.heap.size + 1]? = some (.loop (lp (if jump.isNone then .ready else .done) jump)) ∧
          (W3.putObj (w.heap.size + 1) (.loop (lp (if jump.isNone then .ready else .done) jump))).heap[w.heap.size]? = some (.deferred (some [])) ∧
          Went N (Mj M') A (W3.putObj (w.heap.size + 1) (.loop (lp (if jump.isNone then .ready else .done) jump))) := fun jump M' W3 hw => by
        have m1 : ¬ M' w.heap.size := fun h => (hw.grow _ h).elim n1 (fun h => by omega)
        have m2 : ¬ M' (w.heap.size + 1) := fun h => (hw.grow _ h).elim n2 (fun h => by omega)
        have hl3 : W3.heap[w.heap.size + 1]? = some (.loop { lp .ready none with state := .busy }) := (hw.stays.same _ n2 (by omega)).trans hl2
        have hd3 : W3.heap[w.heap.size]? = some (.deferred (some [])) := (hw.stays.same _ n1 (by omega)).trans hd2
        have he := run_endRound (P := Tryz.prog) jump hl3
        rw [hlp] at he ⊢
        refine ⟨he, m1, m2, Stays.put _ _ _ (fun h => h.elim m2 (fun h => by omega)), World.putObj_heap_same (Array.getElem?_eq_some_iff.1 hl3).1, (World.putObj_heap_other (by omega)).trans hd3, ⟨fun k hk => ?_, ?_⟩⟩
        · rcases hk with hk | hk
          · exact (hw.grow k hk).elim (fun h => .inl ((hN k).2 (.inl h))) (fun h => .inr (by omega))
          · exact .inl ((hN k).2 (.inr hk))
        · have nN : ¬ ¬ N (w.heap.size + 1) := fun h => h ((hN _).2 (.inr (.inr rfl)))
          exact ((s2 _ nN).trans (hw.stays.sub (fun k hk _ hm => hk ((hN k).2 (.inl hm))))).trans (Stays.put _ _ _ nN)
      rintro e a3 W3 hp
      cases e with
      | normal =>
        obtain ⟨M', hw, hi3⟩ := hp
        obtain ⟨he, m1, m2, hs, g1, g2, hW⟩ := fin none M' W3 hw
        exact ⟨_, _, he, Mj M', hW, .inl ⟨rfl, M', fun _ => Iff.rfl, hI _ _ _ _ hi3 hs, m1, m2, g1, g2⟩⟩
      | ret =>
        obtain ⟨M', hw, hi3⟩ := hp
        obtain ⟨he, m1, m2, hs, g1, g2, hW⟩ := fin (some .ret) M' W3 hw
        exact ⟨_, _, he, Mj M', hW, .inr ⟨rfl, M', fun _ => Iff.rfl, hX _ _ _ _ hi3 hs, m1, m2, g1, g2⟩⟩
      | _ => exact hp.elim
    · intro k hk
      rcases hk with hk | hk | hk
      · have := hM0 k hk; omega
      · omega
      · omega
    · rintro e W2 ⟨⟨v, rfl⟩, hst, N, hgr, (⟨M, hN, hi, n1, n2, hl, hd⟩ | ⟨pre, M, hN, hi, n1, n2, hl, hd⟩)⟩
      · have lt1 := (Array.getElem?_eq_some_iff.1 hl).1
        have hfin : ∀ o, Stays (fun k => M k ∨ k < w.heap.size) W2 (W2.putObj (w.heap.size + 1) o) := fun o => Stays.put _ _ _ (fun h => h.elim n2 (fun h => by omega))
        have hall : ∀ o, Stays (fun k => ¬ M0 k) w (W2.putObj (w.heap.size + 1) o) := fun o =>
          ⟨hst.os.trans xb.os, hst.tape.trans xb.tape, hst.output.trans xb.output, by have := hst.size; simp; omega, fun k hk hlt => (World.putObj_heap_other (by omega)).trans ((hst.same k (fun hm => hm.elim hk (fun h => by omega)) (by omega)).trans (xb.block k hlt))⟩
        exact ⟨none, _, by have := run_endLoop (P := Tryz.prog) hl (by rw [hlp]; simp); rw [hlp] at this; exact this, hdone _ M _ (Nat.le_refl _) n1 (hI _ _ _ _ hi (hfin _)) (hall _) (fun k hk => (hgr k ((hN k).2 (.inl hk))).elim (fun h => h.elim .inl (fun h => .inr (by omega))) (fun h => .inr (by omega))) ((World.putObj_heap_other (by omega)).trans hd)⟩
      · have lt1 := (Array.getElem?_eq_some_iff.1 hl).1
        have hfin : ∀ o, Stays (fun k => M k ∨ k < w.heap.size) W2 (W2.putObj (w.heap.size + 1) o) := fun o => Stays.put _ _ _ (fun h => h.elim n2 (fun h => by omega))
        have hall : ∀ o, Stays (fun k => ¬ M0 k) w (W2.putObj (w.heap.size + 1) o) := fun o =>
          ⟨hst.os.trans xb.os, hst.tape.trans xb.tape, hst.output.trans xb.output, by have := hst.size; simp; omega, fun k hk hlt => (World.putObj_heap_other (by omega)).trans ((hst.same k (fun hm => hm.elim hk (fun h => by omega)) (by omega)).trans (xb.block k hlt))⟩
        exact ⟨some .ret, _, by have := run_endLoop (P := Tryz.prog) hl (by rw [hlp]; simp); rw [hlp] at this; exact this, hstop _ pre M _ (Nat.le_refl _) n1 (hX _ _ _ _ hi (hfin _)) (hall _) (fun k hk => (hgr k ((hN k).2 (.inl hk))).elim (fun h => h.elim .inl (fun h => .inr (by omega))) (fun h => .inr (by omega))) ((World.putObj_heap_other (by omega)).trans hd)⟩
end Go.Proofs.YtgmneapgihakgaaGreatDoor
/- A box of several cells, known whole; what a row of pairs tells, up to the first error; what ask.Things' rounds keep. -/
namespace Go.Proofs.YtgmneapgihakgaaGreatDoor
open Go.RowKit Go.Sort Go.Maps
open Tx (Rise At Ord above)
def BoxL (W : World) (g : Nat) (t : TypeId) (xs : Array Value) : Prop := W.heap[g]? = some (.cells xs t (0, 0))
theorem BoxL.lt {W : World} {g : Nat} {t : TypeId} {xs : Array Value} (h : BoxL W g t xs) : g < W.heap.size := (Array.getElem?_eq_some_iff.1 h).1
theorem BoxL.cell {W : World} {g : Nat} {t : TypeId} {xs : Array Value} (h : BoxL W g t xs) {i : Nat} {x : Value} (hx : xs[i]? = some x) : W.cell? ⟨g, i, none⟩ = some x := by simp [World.cell?, show W.heap[g]? = _ from h, hx]
theorem BoxL.frozen {W : World} {g : Nat} {t : TypeId} {xs : Array Value} (h : BoxL W g t xs) (i : Nat) : W.frozen? ⟨g, i, none⟩ = false := by simp [World.frozen?, show W.heap[g]? = _ from h]
theorem BoxL.new (W : World) (xs : Array Value) (t : TypeId) : BoxL (W.alloc (.cells xs t)) W.heap.size t xs := World.alloc_heap_new W _
theorem BoxL.same {W W' : World} {g : Nat} {t : TypeId} {xs : Array Value} (h : BoxL W g t xs) (hs : W'.heap[g]? = W.heap[g]?) : BoxL W' g t xs := hs.trans h
theorem BoxL.below {W W' : World} {B g : Nat} {t : TypeId} {xs : Array Value} (h : BoxL W g t xs) (hb : Below B W W') (hg : g < B) : BoxL W' g t xs := (hb.block g hg).trans h
theorem BoxL.alloc {W : World} {g : Nat} {t : TypeId} {xs : Array Value} (h : BoxL W g t xs) (o : Obj) : BoxL (W.alloc o) g t xs := h.below ((Below.refl _ _).alloc (Nat.le_refl _) o) h.lt
theorem BoxL.set {W : World} {g : Nat} {t : TypeId} {xs : Array Value} (h : BoxL W g t xs) (i : Nat) (v : Value) : BoxL (W.setCell ⟨g, i, none⟩ v) g t (xs.setIfInBounds i v) := by
  obtain ⟨hlt, hk⟩ := Array.getElem?_eq_some_iff.1 h
  show (W.heap.modify g _)[g]? = _
  rw [Array.getElem?_eq_getElem (by rw [Array.size_modify]; exact hlt), Array.getElem_modify_self, hk]
  rfl
theorem BoxL.other {W : World} {g : Nat} {t : TypeId} {xs : Array Value} (h : BoxL W g t xs) {k : Nat} (hne : g ≠ k) (i : Nat) (v : Value) : BoxL (W.setCell ⟨k, i, none⟩ v) g t xs := (Below.heap_setCell W ⟨k, i, none⟩ v g hne).trans h
theorem Boxed.boxL {W : World} {g : Nat} {t : TypeId} {v : Value} (h : Boxed W g t v) : BoxL W g t #[v] := h
/-- Up to the first error, with nothing beside it. -/
def upE {α : Type} (z : α) : List (α × Int) → List (α × Int)
  | [] => []
  | x :: t => if x.2 = 0 then x :: upE z t else [(z, x.2)]
theorem upE_all {α : Type} (z : α) : ∀ l : List (α × Int), (∀ x ∈ l, x.2 = 0) → upE z l = l
  | [], _ => rfl
  | x :: t, h => by rw [upE, if_pos (h x (by simp)), upE_all z t (fun y hy => h y (by simp [hy]))]
theorem upE_app {α : Type} (z : α) : ∀ p t : List (α × Int), (∀ x ∈ p, x.2 = 0) → upE z (p ++ t) = p ++ upE z t
  | [], _, _ => rfl
  | x :: p, t, h => by rw [List.cons_append, upE, if_pos (h x (by simp)), upE_app z p t (fun y hy => h y (by simp [hy]))]; rfl
theorem upE_ok {α : Type} (z : α) {p t : List (α × Int)} {x : α × Int} (hp : ∀ y ∈ p, y.2 = 0) (hx : x.2 = 0) : p ++ [x] <+: upE z (p ++ x :: t) := by
  rw [upE_app z p _ hp, upE, if_pos hx]
  exact ⟨upE z t, by simp⟩
theorem upE_bad {α : Type} (z : α) {p t : List (α × Int)} {x : α × Int} (hp : ∀ y ∈ p, y.2 = 0) (hx : x.2 ≠ 0) : upE z (p ++ x :: t) = p ++ [(z, x.2)] := by
  rw [upE_app z p _ hp, upE, if_neg hx]
/-- What ask.Things' rounds keep. -/
structure TI {α : Type} (W : World) (l p : Nat) (fr up : Txt) (J : List (α × Int) → (Nat → Prop) → World → Prop) (rd : Txt × Txt → α × Int) (pre : List (Txt × Txt)) (M : Nat → Prop) (A : World) : Prop where
  j : J (pre.map rd) M A
  ok : ∀ x ∈ pre, (rd x).2 = 0
  own : ∀ k, M k → k < W.heap.size ∨ W.heap.size + 4 ≤ k
  y : A.cell? ⟨W.heap.size, 0, none⟩ = some (.func (.yield l) #[] #[])
  c1 : A.cell? ⟨W.heap.size + 1, 0, none⟩ = some (.iface 25 (.pointer (some ⟨p, 0, none⟩)))
  c2 : A.cell? ⟨W.heap.size + 1 + 1, 0, none⟩ = some (.string (str fr))
  c3 : A.cell? ⟨W.heap.size + 1 + 1 + 1, 0, none⟩ = some (.string (str up))
  size : W.heap.size + 4 ≤ A.heap.size
theorem TI.stays {α : Type} {W : World} {l p s : Nat} {fr up : Txt} {J : List (α × Int) → (Nat → Prop) → World → Prop} {rd : Txt × Txt → α × Int} (hJ : ∀ pre M A B, J pre M A → Stays (fun k => M k ∨ k < W.heap.size) A B → J pre M B) (hs : s = W.heap.size + 4) {pre : List (Txt × Txt)} {M : Nat → Prop} {A B : World} (h : TI W l p fr up J rd pre M A) (st : Stays (fun k => M k ∨ k < s) A B) : TI W l p fr up J rd pre M B := by
  have sz := h.size
  have lo : ∀ k, k < W.heap.size + 4 → B.heap[k]? = A.heap[k]? := fun k hk => st.same k (.inr (by omega)) (by omega)
  exact ⟨hJ _ _ _ _ h.j (st.sub (fun k hk _ => hk.elim .inl (fun h => .inr (by omega)))), h.ok, h.own, (cell_same (lo _ (by omega)) 0).trans h.y, (cell_same (lo _ (by omega)) 0).trans h.c1, (cell_same (lo _ (by omega)) 0).trans h.c2, (cell_same (lo _ (by omega)) 0).trans h.c3, Nat.le_trans sz st.size⟩
theorem ti_start {α : Type} {W wF : World} {l p : Nat} {fr up : Txt} {J : List (α × Int) → (Nat → Prop) → World → Prop} {rd : Txt × Txt → α × Int} {M0 : Nat → Prop} {T Y : TypeId} (hJ : ∀ pre M A B, J pre M A → Stays (fun k => M k ∨ k < W.heap.size) A B → J pre M B) (h0 : J [] M0 W) (hM0 : ∀ k, M0 k → k < W.heap.size)
    (hw : wF = (((W.alloc (.cells #[.func (.yield l) #[] #[]] Y)).alloc (.cells #[.iface 25 (.pointer (some ⟨p, 0, none⟩))] T)).alloc (.cells #[.string (str fr)] 9)).alloc (.cells #[.string (str up)] 9)) :
    TI W l p fr up J rd [] M0 wF ∧ wF.heap.size = W.heap.size + 4 ∧ Below W.heap.size W wF := by
  have hb : Below W.heap.size W wF := by rw [hw]; exact ((((Below.refl _ _).alloc (Nat.le_refl _) _).alloc (by simp) _).alloc (by simp; omega) _).alloc (by simp; omega) _
  have hz : wF.heap.size = W.heap.size + 4 := by rw [hw]; simp
  refine ⟨⟨hJ _ _ _ _ h0 (Stays.below hb), fun _ h => (by cases h), fun k hk => .inl (hM0 k hk), ?_, ?_, ?_, ?_, by omega⟩, hz, hb⟩
  · rw [hw]; exact ((((Boxed.new W Y _).alloc _).alloc _).alloc _).cell
  · have := r3_0 (W.alloc (.cells #[.func (.yield l) #[] #[]] Y)) (.cells #[.string (str fr)] 9) (.cells #[.string (str up)] 9) (.iface 25 (.pointer (some ⟨p, 0, none⟩))) T
    rw [World.size_alloc] at this; rw [hw]; exact this
  · have := r3_1 (W.alloc (.cells #[.func (.yield l) #[] #[]] Y)) (.cells #[.iface 25 (.pointer (some ⟨p, 0, none⟩))] T) (.cells #[.string (str up)] 9) (.string (str fr)) 9
    rw [World.size_alloc] at this; rw [hw]; exact this
  · have := World.cell?_alloc_new (((W.alloc (.cells #[.func (.yield l) #[] #[]] Y)).alloc (.cells #[.iface 25 (.pointer (some ⟨p, 0, none⟩))] T)).alloc (.cells #[.string (str fr)] 9)) #[.string (str up)] 9 0
    rw [World.size_alloc, World.size_alloc, World.size_alloc] at this; rw [hw]; exact this
theorem th_next {α : Type} {z : α} {rd : Txt × Txt → α × Int} {pre L : List (Txt × Txt)} {x : Txt × Txt} (hp : ∀ y ∈ pre, (rd y).2 = 0) (hx : (rd x).2 = 0) (h : pre ++ [x] <+: L) : pre.map rd ++ [rd x] <+: upE z (L.map rd) := by
  obtain ⟨t, rfl⟩ := h
  have : (pre ++ [x] ++ t).map rd = pre.map rd ++ rd x :: t.map rd := by simp
  rw [this]
  exact upE_ok z (fun y hy => by obtain ⟨y', h1, rfl⟩ := List.mem_map.1 hy; exact hp y' h1) hx
theorem th_stop {α : Type} {z : α} {rd : Txt × Txt → α × Int} {pre L : List (Txt × Txt)} {x : Txt × Txt} (hp : ∀ y ∈ pre, (rd y).2 = 0) (hx : (rd x).2 ≠ 0) (h : pre ++ [x] <+: L) : upE z (L.map rd) = pre.map rd ++ [(z, (rd x).2)] := by
  obtain ⟨t, rfl⟩ := h
  have : (pre ++ [x] ++ t).map rd = pre.map rd ++ rd x :: t.map rd := by simp
  rw [this]
  exact upE_bad z (fun y hy => by obtain ⟨y', h1, rfl⟩ := List.mem_map.1 hy; exact hp y' h1) hx
theorem th_all {α : Type} {z : α} {rd : Txt × Txt → α × Int} {L : List (Txt × Txt)} (hp : ∀ y ∈ L, (rd y).2 = 0) : upE z (L.map rd) = L.map rd :=
  upE_all z _ (fun y hy => by obtain ⟨y', h1, rfl⟩ := List.mem_map.1 hy; exact hp y' h1)
theorem th_went {M M5 : Nat → Prop} {A W4 A5 : World} (hs : Stays (fun k => k < A.heap.size) A W4) (hw : Went M M5 W4 A5) : Went M M5 A A5 :=
  ⟨fun k hk => (hw.grow k hk).imp id (fun h => Nat.le_trans hs.size h), (hs.sub (fun _ _ h => h)).trans hw.stays⟩
theorem TI.next {α : Type} {W : World} {l p : Nat} {fr up : Txt} {J : List (α × Int) → (Nat → Prop) → World → Prop} {rd : Txt × Txt → α × Int} {pre : List (Txt × Txt)} {M M5 : Nat → Prop} {A A5 : World} {x : Txt × Txt} (h : TI W l p fr up J rd pre M A) (hw : Went M M5 A A5) (hj : J (pre.map rd ++ [rd x]) M5 A5) (hx : (rd x).2 = 0) : TI W l p fr up J rd (pre ++ [x]) M5 A5 := by
  have sz := h.size
  have hs : ∀ k, W.heap.size ≤ k → k < W.heap.size + 4 → A5.heap[k]? = A.heap[k]? := fun k h1 h2 => hw.stays.same k (fun hm => by have := h.own k hm; omega) (by omega)
  refine ⟨by simpa using hj, fun y hy => ?_, fun k hk => ?_, (cell_same (hs _ (by omega) (by omega)) 0).trans h.y, (cell_same (hs _ (by omega) (by omega)) 0).trans h.c1, (cell_same (hs _ (by omega) (by omega)) 0).trans h.c2, (cell_same (hs _ (by omega) (by omega)) 0).trans h.c3, Nat.le_trans sz hw.stays.size⟩
  · rcases List.mem_append.1 hy with hy | hy
    · exact h.ok y hy
    · obtain rfl : y = x := by simpa using hy
      exact hx
  · rcases hw.grow k hk with h1 | h1
    · exact h.own k h1
    · exact .inr (by omega)
end Go.Proofs.YtgmneapgihakgaaGreatDoor
/- Records: a queue, a message, a number: what they are in memory and as bytes; the contracts of what lays them. -/
namespace Go.Proofs.YtgmneapgihakgaaGreatDoor
open Go.RowKit
structure Qu where
  nm : ByteArray
  most : Nat
  ttl : Nat
  tries : Nat
  dead : ByteArray
structure Ms where
  qu : ByteArray
  id : Nat
  tries : Nat
  expiry : Nat
  body : ByteArray
def Qu.ok (q : Qu) : Prop := q.most < 4294967296 ∧ q.ttl < 18446744073709551616 ∧ q.tries < 4294967296 ∧ q.dead.size < 100000
def Ms.ok (m : Ms) : Prop := m.tries < 4294967296 ∧ m.expiry < 18446744073709551616 ∧ m.body.size < 100000
def aggQ (q : Qu) : Value := .agg #[.string q.nm, .int .u32 q.most, .int .u64 q.ttl, .int .u32 q.tries, .string q.dead]
def aggM (m : Ms) : Value := .agg #[.string m.qu, .int .u64 m.id, .int .u32 m.tries, .int .u64 m.expiry, .string m.body]
def encQ (q : Qu) : List UInt8 := Oc.big 4 q.most ++ (Oc.big 8 q.ttl ++ (Oc.big 4 q.tries ++ (Oc.big 4 q.dead.size ++ q.dead.data.toList)))
def encM (m : Ms) : List UInt8 := Oc.big 4 m.tries ++ (Oc.big 8 m.expiry ++ (Oc.big 4 m.body.size ++ m.body.data.toList))
/-- The fields of a box of five cells, and that nothing else of old has turned. -/
theorem In5.step {w w1 w2 : World} {g : Nat} {x0 x1 x2 x3 x4 : Value} (h : w1.cell? ⟨g, 0, none⟩ = some x0 ∧ w1.cell? ⟨g, 1, none⟩ = some x1 ∧ w1.cell? ⟨g, 2, none⟩ = some x2 ∧ w1.cell? ⟨g, 3, none⟩ = some x3 ∧ w1.cell? ⟨g, 4, none⟩ = some x4 ∧ Below g w w1) (hb : Below w1.heap.size w1 w2) :
    w2.cell? ⟨g, 0, none⟩ = some x0 ∧ w2.cell? ⟨g, 1, none⟩ = some x1 ∧ w2.cell? ⟨g, 2, none⟩ = some x2 ∧ w2.cell? ⟨g, 3, none⟩ = some x3 ∧ w2.cell? ⟨g, 4, none⟩ = some x4 ∧ Below g w w2 := by
  obtain ⟨h0, h1, h2, h3, h4, h5⟩ := h
  have hlt := World.block_lt_of_cell? _ _ h0
  exact ⟨(hb.cell (p := ⟨g, 0, none⟩) hlt).trans h0, (hb.cell (p := ⟨g, 1, none⟩) hlt).trans h1, (hb.cell (p := ⟨g, 2, none⟩) hlt).trans h2, (hb.cell (p := ⟨g, 3, none⟩) hlt).trans h3, (hb.cell (p := ⟨g, 4, none⟩) hlt).trans h4, h5.trans (hb.mono (Nat.le_of_lt hlt))⟩
theorem In5.first (w : World) (x0 x1 x2 x3 x4 : Value) (T : TypeId) :
    (w.alloc (.cells #[x0, x1, x2, x3, x4] T)).drew.cell? ⟨w.heap.size, 0, none⟩ = some x0 ∧ (w.alloc (.cells #[x0, x1, x2, x3, x4] T)).drew.cell? ⟨w.heap.size, 1, none⟩ = some x1 ∧ (w.alloc (.cells #[x0, x1, x2, x3, x4] T)).drew.cell? ⟨w.heap.size, 2, none⟩ = some x2 ∧ (w.alloc (.cells #[x0, x1, x2, x3, x4] T)).drew.cell? ⟨w.heap.size, 3, none⟩ = some x3 ∧ (w.alloc (.cells #[x0, x1, x2, x3, x4] T)).drew.cell? ⟨w.heap.size, 4, none⟩ = some x4 ∧ Below w.heap.size w (w.alloc (.cells #[x0, x1, x2, x3, x4] T)).drew :=
  ⟨by simp, by simp, by simp, by simp, by simp, ((Below.refl _ _).alloc (Nat.le_refl _) _).drew⟩
theorem textz (s : ByteArray) : (str (Oc.big 4 s.size ++ s.data.toList)).size = 4 + s.size := by rw [str_size, List.length_append, Oc.big_length]; simp
theorem putQ_any (q : Qu) (hq : q.ok) (w : World) :
    Calls Tryz.prog 185 #[aggQ q] w fun e w' => e = .returned (.string (str (encQ q))) ∧ Below w.heap.size w w' := by
  obtain ⟨nm, a, b, c, s⟩ := q
  obtain ⟨ha, hb, hc, hs⟩ := hq
  simp only at ha hb hc hs
  have hz := big_size
  have hzt := textz s
  have hs4 : s.size < 4294967296 := by omega
  have hq1 : ¬ 9223372036854775807 < 16 + (4 + s.size) := by omega
  have HA := Lib.hid (fun W => four_at a a rfl ha W)
  have HB := Lib.hid (fun W => eight_at b b rfl hb W)
  have HC := Lib.hid (fun W => four_at c c rfl hc W)
  have HS := Lib.hid (fun W => text_at s hs4 W)
  have H : Hid (str (Oc.big 4 a) ++ str (Oc.big 8 b) ++ str (Oc.big 4 c) ++ str (Oc.big 4 s.size ++ s.data.toList) = str (encQ ⟨nm, a, b, c, s⟩)) := by
    show _ = _
    rw [str_append, str_append, str_append]; simp only [List.append_assoc]; rfl
  unfold aggQ
  clear ha hb hc hs4
  revert H HS
  generalize encQ ⟨nm, a, b, c, s⟩ = ex
  intro HS H
  go_enter Tryz.func185, Tryz.ntmps185
  go_wp2_with fail
  go_region_held3 (fun w' => w'.cell? ⟨w.heap.size, 0, none⟩ = some (.string nm) ∧ w'.cell? ⟨w.heap.size, 1, none⟩ = some (.int .u32 a) ∧ w'.cell? ⟨w.heap.size, 2, none⟩ = some (.int .u64 b) ∧ w'.cell? ⟨w.heap.size, 3, none⟩ = some (.int .u32 c) ∧ w'.cell? ⟨w.heap.size, 4, none⟩ = some (.string s) ∧ Below w.heap.size w w')
    ((first | assumption | exact In5.step ‹_› hb | exact In5.first _ _ _ _ _ _ _))
    (first
    | (go_at_call 186; with_reducible refine (HA.out _).mono ?_; rintro e w1 ⟨rfl, hb⟩)
    | (go_at_call 187; refine (HB.out _).mono ?_; rintro e w1 ⟨rfl, hb⟩)
    | (go_at_call 186; with_reducible refine (HC.out _).mono ?_; rintro e w2 ⟨rfl, hb⟩)
    | (go_at_call 188; refine (HS.out _).mono ?_; rintro e w2 ⟨rfl, hb⟩))
  rename_i hS
  obtain ⟨_, _, _, _, _, hB⟩ := hS
  go_wp2
  go_ret
  exact ⟨ret_string H.out, hB⟩
theorem putM_any (m : Ms) (hq : m.ok) (w : World) :
    Calls Tryz.prog 262 #[aggM m] w fun e w' => e = .returned (.string (str (encM m))) ∧ Below w.heap.size w w' := by
  obtain ⟨nm, i, a, b, s⟩ := m
  obtain ⟨ha, hb, hs⟩ := hq
  simp only at ha hb hs
  have hz := big_size
  have hzt := textz s
  have hs4 : s.size < 4294967296 := by omega
  have hq1 : ¬ 9223372036854775807 < 12 + (4 + s.size) := by omega
  have HA := Lib.hid (fun W => four_at a a rfl ha W)
  have HB := Lib.hid (fun W => eight_at b b rfl hb W)
  have HS := Lib.hid (fun W => text_at s hs4 W)
  have H : Hid (str (Oc.big 4 a) ++ str (Oc.big 8 b) ++ str (Oc.big 4 s.size ++ s.data.toList) = str (encM ⟨nm, i, a, b, s⟩)) := by
    show _ = _
    rw [str_append, str_append]; simp only [List.append_assoc]; rfl
  unfold aggM
  clear ha hb hs4
  revert H HS
  generalize encM ⟨nm, i, a, b, s⟩ = ex
  intro HS H
  go_enter Tryz.func262, Tryz.ntmps262
  go_wp2_with fail
  go_region_held3 (fun w' => w'.cell? ⟨w.heap.size, 0, none⟩ = some (.string nm) ∧ w'.cell? ⟨w.heap.size, 1, none⟩ = some (.int .u64 i) ∧ w'.cell? ⟨w.heap.size, 2, none⟩ = some (.int .u32 a) ∧ w'.cell? ⟨w.heap.size, 3, none⟩ = some (.int .u64 b) ∧ w'.cell? ⟨w.heap.size, 4, none⟩ = some (.string s) ∧ Below w.heap.size w w')
    ((first | assumption | exact In5.step ‹_› hb | exact In5.first _ _ _ _ _ _ _))
    (first
    | (go_at_call 186; refine (HA.out _).mono ?_; rintro e w1 ⟨rfl, hb⟩)
    | (go_at_call 187; refine (HB.out _).mono ?_; rintro e w1 ⟨rfl, hb⟩)
    | (go_at_call 188; refine (HS.out _).mono ?_; rintro e w2 ⟨rfl, hb⟩))
  rename_i hS
  obtain ⟨_, _, _, _, _, hB⟩ := hS
  go_wp2
  go_ret
  exact ⟨ret_string H.out, hB⟩
end Go.Proofs.YtgmneapgihakgaaGreatDoor
