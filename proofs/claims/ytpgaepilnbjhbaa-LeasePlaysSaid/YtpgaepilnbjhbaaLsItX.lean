/- A range over a row of things whose rounds make memory, and may leave. -/
import Derived.Test.YtpgaepilnbjhbaaLsBase
import Derived.RangeFuncNested
import Derived.RangeFuncBound
import Derived.RangeFuncCalls
import Derived.RangeFuncLeaves
import Derived.RangeFuncBox
import Derived.Shelf.Abstract
import Derived.Shelf.RegionOpen
import Derived.WalkKit
import Derived.OwnWalkIn
import Derived.TacticsInMore
import Derived.LoopNIn
import Derived.LoopIn
import Derived.Sort.LoopGhostIn
import Derived.RangeFuncWrites
import Derived.Sort.CutIn
set_option maxRecDepth 100000
set_option maxHeartbeats 4000000
set_option linter.unusedVariables false
namespace Go.Proofs.Ytpgaepilnbjhbaa
open Go.RowKit
open Ls (Txt Ln Ms)
attribute [local go_sem] Oper.semAt_some
abbrev WF : Fence := Fence.wide
/-- What goes through a row of things, each of which a round takes or leaves at. -/
def SeqX {α : Type} (ar : α → Array Value) (n : Nat) (g : Nat) (lb : Array Value) (G : World → Prop) (E : List α) : Prop :=
  ∀ (l : Nat) (J X : List α → World → Prop) (W : World), (∀ pre W, J pre W → G W) → (∀ pre W q, J pre W → J pre (W.drewN q)) → (∀ pre W o, J pre W → J pre (W.alloc o)) →
    (∀ pre x W, J pre W → pre ++ [x] <+: E → YieldAt WF (n - 1) Try.prog l (ar x) W fun e W' => (e = .returned (.bool true) ∧ J (pre ++ [x]) W') ∨ (e = .returned (.bool false) ∧ X (pre ++ [x]) W')) → J [] W →
    CallsIn WF n Try.prog g (#[.func (.yield l) #[] #[]] ++ lb) W fun e W' => (∃ v, e = .returned v) ∧ (J E W' ∨ ∃ pre, X pre W')
/-- How a round's body may be left: it goes on, or leaves by this way. -/
def goesX {α : Type} (lv : Exit) (B : Nat) (I X : List α → World → Prop) (xs : List α) (W : World) (e : Exit) (_ : Act) (W' : World) : Prop :=
  (e = .normal ∧ KeepsFrom B W W' ∧ I xs W') ∨ (e = lv ∧ KeepsFrom B W W' ∧ X xs W')
/-- A range over a row of things. -/
theorem rangeX {α : Type} {ar : α → Array Value} {n : Nat} {g : Operand} {ps : Array Tmp} {assign body : Code} {Q : Exit → Act → World → Prop} {a : Act} {w : World} (h1 : 1 ≤ n) {gf : Nat} {lb : Array Value}
    (hg : a.eval g = .func (.func gf) #[] lb) (eg : ∀ args w, (callFunc gf args).run Try.prog w = .ok (.enter gf args) w) {G : World → Prop} {E : List α} (hseq : SeqX ar (n - 1) gf lb G E) (hps : ∀ x, (ar x).size = ps.size)
    (lv : Exit) (pc : Code) (hlv : (lv = .ret ∧ pc = .ret) ∨ ∃ id, lv = .exit id ∧ pc = .exit id)
    (I X : List α → World → Prop) (hI : OwnFrom w.heap.size I) (hX : OwnFrom w.heap.size X) (hIG : ∀ pre W, I pre W → G W) (hIq : ∀ pre W q, I pre W → I pre (W.drewN q)) (h0 : I [] w) (a₁ : α → World → Act) (wa : α → World → World) (hwa : ∀ x W, wa x W = W ∨ ∃ o, wa x W = W.alloc o)
    (hassign : ∀ (l : Nat) (x : α) (W : World) (K : Act → World → Prop), K (a₁ x W) (wa x W) →
      assign.wpIn (WF.inRound l) (n - 1 - 1) Try.prog (Exit.then K (fun _ _ _ => False)) { tmps := (ps.zip (ar x)).foldl (fun t (p, v) => t.setIfInBounds p v) a.tmps, defers := [] } W)
    (hbody : ∀ (l : Nat) (pre : List α) (x : α) (W W2 : World), (∃ k o, W2 = (wa x W).putObj k o ∧ k < W.heap.size ∧ w.heap.size ≤ k ∧ o.isCells = false) → I pre W2 → pre ++ [x] <+: E → body.wpIn (WF.inRound l) (n - 1 - 1) Try.prog (goesX lv w.heap.size I X (pre ++ [x]) W2) (a₁ x W) W2)
    (hdone : ∀ (D : Nat) (W : World), w.heap.size ≤ D → I E W → W.heap[D]? = some (.deferred (some [])) → Q .normal { a with defers := { target := .collected D, args := #[] } :: a.defers } W)
    (hstop : ∀ (D : Nat) (pre : List α) (W : World), w.heap.size ≤ D → X pre W → W.heap[D]? = some (.deferred (some [])) → pc.wpIn WF n Try.prog Q { a with defers := { target := .collected D, args := #[] } :: a.defers } W) :
    (Code.rangeFunc g ps assign body).wpIn WF n Try.prog Q a w := by
  refine wpIn_rangeFunc (fun fn hfn => ?_)
  rw [show WF.round = none from rfl]
  obtain ⟨lp, hlp⟩ : ∃ lp : LoopState → Option Code → Loop, lp = fun st pe => { state := st, pending := pe, fn, tmps := a.tmps, params := ps, assign, body, defers := w.heap.size } := ⟨_, rfl⟩
  obtain ⟨X0, hX0⟩ : ∃ X0, X0 = (w.alloc (.deferred (some []))).alloc (.loop (lp .ready none)) := ⟨_, rfl⟩
  have xl : X0.heap[w.heap.size + 1]? = some (.loop (lp .ready none)) := by
    rw [hX0]; have := heap_alloc_new (w.alloc (.deferred (some []))) (.loop (lp .ready none)); rwa [World.size_alloc] at this
  have xd : X0.heap[w.heap.size]? = some (.deferred (some [])) := by
    rw [hX0]; exact (Below.heap_alloc _ _ _ (by simp)).trans (heap_alloc_new w _)
  have xs : w.heap.size ≤ X0.heap.size := by rw [hX0]; simp; omega
  have xi : I [] X0 := by rw [hX0]; exact hI.alloc _ (hI.alloc _ h0)
  refine ⟨w.heap.size + 1, [{ target := .collected w.heap.size, args := #[] }], X0, { target := .fn (.func gf) lb, args := #[.func (.yield (w.heap.size + 1)) #[] #[]] }, X0, gf, #[.func (.yield (w.heap.size + 1)) #[] #[]] ++ lb, X0, ?_, ?_, fun _ _ => trivial, ?_, fun _ => h1, ?_⟩
  · rw [hX0, hlp]; exact run_enterLoop_outer _ _ _ _ _
  · simp only [resolve, hg]
    simp [go_sem]
  · simp [invoke, go_sem, eg]
  · have hold : ∀ (W : World) (o : Obj) (k : Nat) (v : Obj), W.heap[k]? = some v → (W.alloc o).heap[k]? = some v := fun W o k v h => (Below.heap_alloc W o k (Array.getElem?_eq_some_iff.1 h).1).trans h
    refine (hseq (w.heap.size + 1) (fun pre W => I pre W ∧ W.heap[w.heap.size + 1]? = some (.loop (lp .ready none)) ∧ W.heap[w.heap.size]? = some (.deferred (some [])))
      (fun pre W => X pre W ∧ W.heap[w.heap.size + 1]? = some (.loop (lp .done (some pc))) ∧ W.heap[w.heap.size]? = some (.deferred (some []))) X0 (fun pre W h => hIG pre W h.1) (fun pre W q h => ⟨hIq pre W q h.1, h.2⟩) (fun pre W o h => ⟨hI.alloc _ h.1, hold _ _ _ _ h.2.1, hold _ _ _ _ h.2.2⟩) ?_ ⟨xi, xl, xd⟩).mono ?_
    · rintro pre x W ⟨hi, hl, hk⟩ hlen
      have hlt : w.heap.size + 1 < W.heap.size := (Array.getElem?_eq_some_iff.1 hl).1
      have hy := run_yield (P := Try.prog) (args := ar x) hl (by rw [hlp]; exact hps x)
      rw [hlp] at hy
      obtain ⟨Wa, hWa⟩ : ∃ Wa, Wa = wa x W := ⟨_, rfl⟩
      obtain ⟨hai, hal, hak, has⟩ : I pre Wa ∧ Wa.heap[w.heap.size + 1]? = some (.loop (lp .ready none)) ∧ Wa.heap[w.heap.size]? = some (.deferred (some [])) ∧ W.heap.size ≤ Wa.heap.size := by
        rw [hWa]
        rcases hwa x W with h | ⟨o, h⟩
        · rw [h]; exact ⟨hi, hl, hk, Nat.le_refl _⟩
        · rw [h]; exact ⟨hI.alloc _ hi, hold _ _ _ _ hl, hold _ _ _ _ hk, by simp⟩
      refine ⟨fn, _, assign, body, hy, roundIn_of_wpIn hfn (hassign _ x W _ ⟨_, run_beginRound (by rw [← hWa]; exact hal) (by rw [hlp]), ?_⟩)⟩
      obtain ⟨W2, hW2⟩ : ∃ W2, W2 = Wa.putObj (w.heap.size + 1) (.loop { lp .ready none with state := .busy }) := ⟨_, rfl⟩
      have hl2 : W2.heap[w.heap.size + 1]? = some (.loop { lp .ready none with state := .busy }) := by rw [hW2]; exact World.putObj_heap_same (Nat.lt_of_lt_of_le hlt has)
      have hk2 : W2.heap[w.heap.size]? = some (.deferred (some [])) := by rw [hW2]; exact (World.putObj_heap_other (by omega)).trans hak
      have hi2 : I pre W2 := by rw [hW2]; exact hI.putObj _ hai (by omega) hal rfl
      rw [← hWa, ← hW2]
      refine wpIn_mono (hbody _ pre x W W2 ⟨w.heap.size + 1, _, by rw [hW2, hWa], hlt, by omega, rfl⟩ hi2 hlen) ?_
      rintro e a3 W3 hp
      rcases hp with ⟨rfl, hk3, hi3⟩ | ⟨rfl, hk3, hi3⟩
      · have hl3 := hk3.same _ _ (by omega) hl2 rfl
        have he := run_endRound (P := Try.prog) none hl3
        rw [hlp] at he hl3
        refine ⟨_, _, he, .inl ⟨rfl, hI.putObj _ hi3 (by omega) hl3 rfl, ?_, (World.putObj_heap_other (by omega)).trans (hk3.same _ _ (Nat.le_refl _) hk2 rfl)⟩⟩
        rw [hlp]; exact World.putObj_heap_same (Array.getElem?_eq_some_iff.1 hl3).1
      · have hl3 := hk3.same _ _ (by omega) hl2 rfl
        have he := run_endRound (P := Try.prog) (some pc) hl3
        have hX3 := hX.putObj (.loop (lp .done (some pc))) hi3 (Nat.le_succ w.heap.size) hl3 rfl
        rw [hlp] at he
        have hK3 : (W3.putObj (w.heap.size + 1) (.loop (lp .done (some pc)))).heap[w.heap.size]? = some (.deferred (some [])) := (World.putObj_heap_other (by omega)).trans (hk3.same _ _ (Nat.le_refl _) hk2 rfl)
        have hL3 : (W3.putObj (w.heap.size + 1) (.loop (lp .done (some pc)))).heap[w.heap.size + 1]? = some (.loop (lp .done (some pc))) := World.putObj_heap_same (Array.getElem?_eq_some_iff.1 hl3).1
        rw [hlp] at hX3 hK3 hL3
        rcases hlv with ⟨rfl, rfl⟩ | ⟨id, rfl, rfl⟩
        · exact ⟨_, _, he, .inr ⟨rfl, hX3, by rw [hlp]; exact hL3, hK3⟩⟩
        · exact ⟨_, _, he, .inr ⟨rfl, hX3, by rw [hlp]; exact hL3, hK3⟩⟩
    · rintro e W2 ⟨⟨v, rfl⟩, ⟨hi, hl, hk⟩ | ⟨pre, hi, hl, hk⟩⟩
      · exact ⟨none, _, by have := run_endLoop (P := Try.prog) hl (by rw [hlp]; simp); rw [hlp] at this; exact this, hdone _ _ (Nat.le_refl _) (hI.putObj _ hi (by omega) hl rfl) ((World.putObj_heap_other (by omega)).trans hk)⟩
      · exact ⟨some pc, _, by have := run_endLoop (P := Try.prog) hl (by rw [hlp]; simp); rw [hlp] at this; exact this, hstop _ pre _ (Nat.le_refl _) (hX.putObj _ hi (by omega) hl rfl) ((World.putObj_heap_other (by omega)).trans hk)⟩
end Go.Proofs.Ytpgaepilnbjhbaa
