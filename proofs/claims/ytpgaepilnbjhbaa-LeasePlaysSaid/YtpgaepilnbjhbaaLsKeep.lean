/- What abides while memory grows in a range's rounds; a row in a box that grows by one. -/
import Derived.Test.YtpgaepilnbjhbaaLsItX
set_option maxRecDepth 100000
set_option maxHeartbeats 4000000
set_option linter.unusedVariables false
namespace Go.Proofs.Ytpgaepilnbjhbaa
open Go.RowKit
open Ls (Txt Ln Ms)
theorem firstH {w w1 : World} {b0 g b2 B : Nat} {t t' : TypeId} {x0 x1 z0 z1 y0 : Value} (hT : Boxed2 w1 b0 t x0 x1) (hR : Boxed2 w1 g t' z0 z1) (hm : w1.cell? ⟨b2, 0, none⟩ = some y0) (hb : Below B w w1) : w1.cell? ⟨b0, 0, none⟩ = some x0 ∧ w1.cell? ⟨b0, 1, none⟩ = some x1 ∧ w1.cell? ⟨g, 0, none⟩ = some (cv w1 g 0) ∧ w1.cell? ⟨g, 1, none⟩ = some (cv w1 g 1) ∧ w1.frozen? ⟨g, 0, none⟩ = false ∧ w1.frozen? ⟨g, 1, none⟩ = false ∧ w1.cell? ⟨b2, 0, none⟩ = some y0 ∧ Below B w w1 :=
  ⟨hT.c0, hT.c1, cv_of (by rw [hR.c0]; rfl), cv_of (by rw [hR.c1]; rfl), hR.f0, hR.f1, hm, hb⟩
theorem stepH {w w1 w2 : World} {b0 g b2 B : Nat} {x0 x1 y0 : Value} (hB : B ≤ w.heap.size) (H : w1.cell? ⟨b0, 0, none⟩ = some x0 ∧ w1.cell? ⟨b0, 1, none⟩ = some x1 ∧ w1.cell? ⟨g, 0, none⟩ = some (cv w1 g 0) ∧ w1.cell? ⟨g, 1, none⟩ = some (cv w1 g 1) ∧ w1.frozen? ⟨g, 0, none⟩ = false ∧ w1.frozen? ⟨g, 1, none⟩ = false ∧ w1.cell? ⟨b2, 0, none⟩ = some y0 ∧ Below B w w1) (hb : Below w1.heap.size w1 w2) : w2.cell? ⟨b0, 0, none⟩ = some x0 ∧ w2.cell? ⟨b0, 1, none⟩ = some x1 ∧ w2.cell? ⟨g, 0, none⟩ = some (cv w2 g 0) ∧ w2.cell? ⟨g, 1, none⟩ = some (cv w2 g 1) ∧ w2.frozen? ⟨g, 0, none⟩ = false ∧ w2.frozen? ⟨g, 1, none⟩ = false ∧ w2.cell? ⟨b2, 0, none⟩ = some y0 ∧ Below B w w2 := by
  obtain ⟨h0, h1, h2, h3, h5, h6, m0, hq⟩ := H
  obtain ⟨k0, k1, k2, k3, k4, k5, k6⟩ := stepF hB ⟨h0, h1, h2, h3, h5, h6, hq⟩ hb
  exact ⟨k0, k1, k2, k3, k4, k5, (hb.cell (p := ⟨b2, 0, none⟩) (World.block_lt_of_cell? _ _ m0)).trans m0, k6⟩
theorem stepHs {w w1 : World} {b0 g b2 B j : Nat} {x0 x1 y0 y : Value} (H : w1.cell? ⟨b0, 0, none⟩ = some x0 ∧ w1.cell? ⟨b0, 1, none⟩ = some x1 ∧ w1.cell? ⟨g, 0, none⟩ = some (cv w1 g 0) ∧ w1.cell? ⟨g, 1, none⟩ = some (cv w1 g 1) ∧ w1.frozen? ⟨g, 0, none⟩ = false ∧ w1.frozen? ⟨g, 1, none⟩ = false ∧ w1.cell? ⟨b2, 0, none⟩ = some y0 ∧ Below B w w1) (h0 : g ≠ b0) (h2 : g ≠ b2) (hg : B ≤ g) : (w1.setCell ⟨g, j, none⟩ y).cell? ⟨b0, 0, none⟩ = some x0 ∧ (w1.setCell ⟨g, j, none⟩ y).cell? ⟨b0, 1, none⟩ = some x1 ∧ (w1.setCell ⟨g, j, none⟩ y).cell? ⟨g, 0, none⟩ = some (cv (w1.setCell ⟨g, j, none⟩ y) g 0) ∧ (w1.setCell ⟨g, j, none⟩ y).cell? ⟨g, 1, none⟩ = some (cv (w1.setCell ⟨g, j, none⟩ y) g 1) ∧ (w1.setCell ⟨g, j, none⟩ y).frozen? ⟨g, 0, none⟩ = false ∧ (w1.setCell ⟨g, j, none⟩ y).frozen? ⟨g, 1, none⟩ = false ∧ (w1.setCell ⟨g, j, none⟩ y).cell? ⟨b2, 0, none⟩ = some y0 ∧ Below B w (w1.setCell ⟨g, j, none⟩ y) := by
  obtain ⟨k0, k1, k2, k3, k5, k6, m0, hq⟩ := H
  obtain ⟨c0, c1, c2, c3, c4, c5, c6⟩ := stepFs (j := j) (y := y) ⟨k0, k1, k2, k3, k5, k6, hq⟩ h0 hg
  exact ⟨c0, c1, c2, c3, c4, c5, (World.cell?_setCell_far w1 ⟨g, j, none⟩ ⟨b2, 0, none⟩ y h2).trans m0, c6⟩
theorem zH {w w1 w2 : World} {b0 g b2 B : Nat} {x0 x1 y0 : Value} (H : w1.cell? ⟨b0, 0, none⟩ = some x0 ∧ w1.cell? ⟨b0, 1, none⟩ = some x1 ∧ w1.cell? ⟨g, 0, none⟩ = some (cv w1 g 0) ∧ w1.cell? ⟨g, 1, none⟩ = some (cv w1 g 1) ∧ w1.frozen? ⟨g, 0, none⟩ = false ∧ w1.frozen? ⟨g, 1, none⟩ = false ∧ w1.cell? ⟨b2, 0, none⟩ = some y0 ∧ Below B w w1) (hb : Below w1.heap.size w1 w2) : w2.cell? ⟨g, 0, none⟩ = some (cv w2 g 0) ∧ w2.cell? ⟨g, 1, none⟩ = some (cv w2 g 1) := by
  obtain ⟨h0, h1, h2, h3, h5, h6, m0, hq⟩ := H
  exact zF ⟨h0, h1, h2, h3, h5, h6, hq⟩ hb
theorem lastH {w w1 : World} {b0 g b2 B : Nat} {x0 x1 y0 : Value} (H : w1.cell? ⟨b0, 0, none⟩ = some x0 ∧ w1.cell? ⟨b0, 1, none⟩ = some x1 ∧ w1.cell? ⟨g, 0, none⟩ = some (cv w1 g 0) ∧ w1.cell? ⟨g, 1, none⟩ = some (cv w1 g 1) ∧ w1.frozen? ⟨g, 0, none⟩ = false ∧ w1.frozen? ⟨g, 1, none⟩ = false ∧ w1.cell? ⟨b2, 0, none⟩ = some y0 ∧ Below B w w1) : Below B w w1 := by
  obtain ⟨h0, h1, h2, h3, h5, h6, m0, hq⟩ := H
  exact hq
variable {F : Fence} {nF : Nat} {P : Program}
theorem wpListIn_runA (w : World) {ops : Array Oper} {rest : List Oper} {o : Oper} {a : Act} {Q : Exit → Act → World → Prop} (hgd : o.guard = none) (s x : Operand) (t tn : TypeId)
    (ho : o.op = .call { callee := .builtin .append, args := #[s, x], argTypes := #[t, tn] }) (vs vx : Value) (hs : a.eval s = vs) (hx : a.eval x = vx)
    (v' : Value) (w' : World) (hr : (Builtin.append_ #[t, tn] o.type #[vs, vx]).run P w = .ok v' w') (h : wpListIn F nF P ops Q rest (a.put o.dst v') w') : wpListIn F nF P ops Q (o :: rest) a w := by
  refine wpListIn_plain hgd fun K hK => ?_
  unfold Oper.wpIn
  refine ⟨by simp [Oper.about, ho, resolve, Target.leads, Sem.run_pure], ?_⟩
  rw [Oper.semAt_plain F _ _ (by rw [ho]; intro c hc'; cases hc')]
  simp [execOp, ho, resolve, invoke, builtin, hs, hx, hr, Result.andThen]
  exact hK _ _ h
variable {α : Type} {f : α → List Value} {s : Nat} {w w' W W' : World} {v : Value} {l : List α} {T T' : TypeId} {B B' : Nat} {row : Option Nat}
theorem Boxed2.kept {b : Nat} {t : TypeId} {x0 x1 : Value} (h : Boxed2 W b t x0 x1) (hg : W.grownBy W' row) (hr : ∀ r, row = some r → B ≤ r ∧ ∃ o : Obj, W.heap[r]? = some o ∧ o.isCells = false) : Boxed2 W' b t x0 x1 :=
  (grownBy_keeps_cells hg (fun r e => (hr r e).2) h rfl).trans h
theorem boxed_kept {b : Nat} {t : TypeId} {x : Value} (h : Boxed W b t x) (hg : W.grownBy W' row) (hr : ∀ r, row = some r → B ≤ r ∧ ∃ o : Obj, W.heap[r]? = some o ∧ o.isCells = false) : Boxed W' b t x :=
  (grownBy_keeps_cells hg (fun r e => (hr r e).2) h rfl).trans h
theorem RowG.kept (h : RowG f s T W B' v l) (hg : W.grownBy W' row) (hr : ∀ r, row = some r → B ≤ r ∧ ∃ o : Obj, W.heap[r]? = some o ∧ o.isCells = false) : RowG f s T W' B' v l := by
  obtain ⟨h0, h1⟩ := h
  refine ⟨h0, ?_⟩
  rcases h1 with h1 | ⟨g, cap, cur, hv, hB, hgg, h2, h3, h4, h5⟩
  · exact .inl h1
  · exact .inr ⟨g, cap, cur, hv, hB, (grownBy_keeps_cells hg (fun r e => (hr r e).2) hgg rfl).trans hgg, h2, h3, h4, h5⟩
/-- A block of another type is not the row's. -/
theorem RowG.not_row (h : RowG f s T W B v l) {b : Nat} {cur : Array Value} {t : TypeId} (hb : W.heap[b]? = some (.cells cur t)) (hne : t ≠ T) : some b ≠ v.ownBlock := by
  intro e
  obtain ⟨_, h1⟩ := h
  rcases h1 with ⟨rfl, _⟩ | ⟨g, cap, cu, rfl, _, hg, _⟩
  · simp [Value.ownBlock] at e
  · obtain rfl : b = g := by simpa [Value.ownBlock] using e
    rw [hb] at hg
    have := congrArg (fun o : Option Obj => match o with | some (.cells _ t _) => some t | _ => none) hg
    simp at this
    exact hne this
/-- What a box's row that grows by one leaves as it is. -/
structure Grew (f : α → List Value) (s : Nat) (TS T : TypeId) (B D : Nat) (W w1 : World) (v v' : Value) (l' : List α) : Prop where
  b1 : Boxed w1 D TS v
  b2 : Boxed (w1.setCell ⟨D, 0, none⟩ v') D TS v'
  row : RowG f s T (w1.setCell ⟨D, 0, none⟩ v') B v' l'
  keep : KeepsOthers W (w1.setCell ⟨D, 0, none⟩ v')
  below : Below B W (w1.setCell ⟨D, 0, none⟩ v')
  oth : ∀ (b : Nat) (cur : Array Value) (t : TypeId), W.heap[b]? = some (.cells cur t) → t ≠ T → b ≠ D → (w1.setCell ⟨D, 0, none⟩ v').heap[b]? = some (.cells cur t)
theorem grew {TS : TypeId} {by_ : Nat} (E : Enc f s) (A : App TS T s by_) (hby : by_ ≤ 100) (hne : TS ≠ T) {D : Nat} (hv : Boxed W D TS v) (hrow : RowG f s T W B v l) (hB : B ≤ W.heap.size) (hD : B ≤ D) (hl : l.length ≤ 300000) (x : α) (ty : TypeId) (cs : Array Value) (hcs : cs = (f x).toArray) :
    ∃ v' w1, (Builtin.append_ #[TS, TS] ty #[v, .slice (some ⟨W.heap.size, 0, none⟩) 1 1]).run Try.prog (W.alloc (.cells cs T)) = .ok v' w1 ∧ Grew f s TS T B D W w1 v v' (l ++ [x]) := by
  obtain ⟨v', w1, h1, h2, h3, h4, h5⟩ := app1 E A hby v x ty W hB hrow hl cs hcs W.heap.size rfl
  have hv1 : Boxed w1 D TS v := (hv.alloc (.cells cs T)).kept h3 (hrow.not_row hv hne)
  have hrn : some D ≠ v'.ownBlock := h2.not_row hv1 hne
  refine ⟨v', w1, h1, hv1, hv1.set v', ?_, ?_, h4.setCell (p := ⟨D, 0, none⟩) hD _, ?_⟩
  · exact h2.keep fun g hg => Below.heap_setCell _ _ _ _ (by show g ≠ D; intro e; exact hrn (by rw [← e]; exact hg.symm))
  · refine ((KeepsOthers.alloc W (.cells cs T)).trans (KeepsOthers.of_grownBy h3 fun j o ej hj => ?_)).trans (KeepsOthers.setCell _ _ _)
    have hra : RowG f s T (W.alloc (.cells cs T)) B v l := hrow.alloc _
    obtain ⟨_, h6⟩ := hra
    rcases h6 with ⟨rfl, _⟩ | ⟨g, cap, cu, rfl, _, hg, _⟩
    · simp [Value.ownBlock] at ej
    · obtain rfl : g = j := by simpa [Value.ownBlock] using ej
      rw [hg] at hj; cases hj; rfl
  · intro b cur t hb ht hbD
    have hlt : b < W.heap.size := (Array.getElem?_eq_some_iff.1 hb).1
    have ha : (W.alloc (.cells cs T)).heap[b]? = some (.cells cur t) := (Below.heap_alloc W _ b hlt).trans hb
    have hx : w1.heap[b]? = some (.cells cur t) := (h3.block b (Array.getElem?_eq_some_iff.1 ha).1 ((hrow.alloc _).not_row ha ht)).trans ha
    exact (Below.heap_setCell _ _ _ _ (by show b ≠ D; exact hbD)).trans hx
end Go.Proofs.Ytpgaepilnbjhbaa
