/- LeaseSorts: what the law keeps behind Due. -/
import Derived.Test.YtlkdfmfcjlfihaaLsLaw2a
set_option maxRecDepth 100000
set_option maxHeartbeats 4000000
set_option linter.unusedVariables false
namespace Go.Proofs.Ytlkdfmfcjlfihaa
open Go.RowKit
open Ls (Txt Ln Ms low ltM sameM tl)
theorem R1.below {w W W' : World} {b : Bool} {now g2 g n : Nat} {L pre : List Ms} {f : Txt → Option Nat} {sl : Value} (h : R1 w b now g2 g L f n sl pre W) (hb : Below W.heap.size W W') : R1 w b now g2 g L f n sl pre W' :=
  ⟨h.J.below hb, boxed_below h.N hb, boxed_below h.T hb, boxed_below h.S hb, h.A.below hb, h.G⟩
/-- What the law keeps behind Due. -/
structure K2 (w : World) (b : Bool) (now g2 g n : Nat) (L : List Ms) (f : Txt → Option Nat) (sl v sl4 : Value) (lo g3 D : Nat) (W : World) : Prop where
  R : R1 w b now g2 g L f n sl L W
  V : SlG cX 1 W v ((L.take lo).map keyM)
  S : SlG cM 2 W sl4 (L.drop lo)
  T : Boxed2 W g3 62 (fnM b) sl4
  K : W.heap[D]? = some (.deferred (some []))
  G : D < g3
  H : w.heap.size + 1 + 1 < D
theorem K2.below {w W W' : World} {b : Bool} {now g2 g n : Nat} {L : List Ms} {f : Txt → Option Nat} {sl v sl4 : Value} {lo g3 D : Nat} (h : K2 w b now g2 g n L f sl v sl4 lo g3 D W) (hb : Below W.heap.size W W') : K2 w b now g2 g n L f sl v sl4 lo g3 D W' :=
  ⟨h.R.below hb, h.V.below hb, h.S.below hb, h.T.below hb, (hb.block D (Array.getElem?_eq_some_iff.1 h.K).1).trans h.K, h.G, h.H⟩
theorem K2.drewN {w W : World} {b : Bool} {now g2 g n : Nat} {L : List Ms} {f : Txt → Option Nat} {sl v sl4 : Value} {lo g3 D : Nat} (h : K2 w b now g2 g n L f sl v sl4 lo g3 D W) (q : Nat) : K2 w b now g2 g n L f sl v sl4 lo g3 D (W.drewN q) := h.below (below_drewT (Below.refl _ _) q)
theorem K2.kept {w W W' : World} {b : Bool} {now g2 g n : Nat} {L : List Ms} {f : Txt → Option Nat} {sl v sl4 : Value} {lo g3 D B : Nat} {row : Option Nat} (h : K2 w b now g2 g n L f sl v sl4 lo g3 D W) (hB : g3 < B) (hB2 : g2 + 1 < B) (hg : W.grownBy W' row) (hr : ∀ r, row = some r → B ≤ r ∧ ∃ o : Obj, W.heap[r]? = some o ∧ o.isCells = false) : K2 w b now g2 g n L f sl v sl4 lo g3 D W' :=
  ⟨R1.own _ _ _ _ _ _ _ _ _ B hB2 _ _ _ _ h.R hg hr, h.V.kept' hg hr, h.S.kept' hg hr, h.T.kept hg hr, (hg.block D (Array.getElem?_eq_some_iff.1 h.K).1 (fun e => by have := (hr _ e.symm).1; have := h.G; omega)).trans h.K, h.G, h.H⟩
/-- What a round of the second range keeps. -/
structure R2 (w : World) (b : Bool) (now g2 g n : Nat) (L : List Ms) (f : Txt → Option Nat) (sl v sl4 : Value) (lo g3 D gA : Nat) (pre : List Ms) (W : World) : Prop where
  J : K2 w b now g2 g n L f sl v sl4 lo g3 D W
  A : Boxed2 W gA 62 (fnM b) sl4
theorem R2.own (w : World) (b : Bool) (now g2 g n : Nat) (L : List Ms) (f : Txt → Option Nat) (sl v sl4 : Value) (lo g3 D gA : Nat) (B : Nat) (hB : g3 < B) (hB2 : g2 + 1 < B) : OwnFrom B (R2 w b now g2 g n L f sl v sl4 lo g3 D gA) := fun pre _ _ _ h hg hr =>
  ⟨h.J.kept hB hB2 hg hr, h.A.kept hg hr⟩
theorem R2.drewN {w W : World} {b : Bool} {now g2 g n : Nat} {L pre : List Ms} {f : Txt → Option Nat} {sl v sl4 : Value} {lo g3 D gA : Nat} (h : R2 w b now g2 g n L f sl v sl4 lo g3 D gA pre W) (q : Nat) : R2 w b now g2 g n L f sl v sl4 lo g3 D gA pre (W.drewN q) := ⟨h.J.drewN q, h.A⟩
theorem R2.ag {w W : World} {b : Bool} {now g2 g n : Nat} {L pre : List Ms} {f : Txt → Option Nat} {sl v sl4 : Value} {lo g3 D gA : Nat} (h : R2 w b now g2 g n L f sl v sl4 lo g3 D gA pre W) : AGM gA sl4 (L.drop lo) W := ⟨h.A.c1, h.J.S⟩
theorem K2.look {w W : World} {b : Bool} {now g2 g n : Nat} {L : List Ms} {f : Txt → Option Nat} {sl v sl4 : Value} {lo g3 D : Nat} (h : K2 w b now g2 g n L f sl v sl4 lo g3 D W) (hlo : lo = low (fun e => decide (e.t ≤ now)) L) {k : Nat} {s : Txt} (hs : ((L.take lo).map keyM)[k]? = some s) :
    ∃ t : Nat, t ≤ now ∧ (Instr.lookup 64 (.map (some (g2 + 1))) (.string (str s)) true).run Try.prog W = .ok (.tuple #[.int .u64 t, .bool true]) W := by
  rw [List.getElem?_map] at hs
  obtain ⟨x, hx, rfl⟩ := Option.map_eq_some_iff.1 hs
  rw [List.getElem?_take] at hx
  by_cases hk : k < lo
  · rw [if_pos hk] at hx
    have hp := Ls.low_lt (p := fun e => decide (e.t ≤ now)) hx (by rw [← hlo]; exact hk)
    exact ⟨x.t, by simpa using hp, h.R.look x (List.mem_of_getElem? hx)⟩
  · rw [if_neg hk] at hx; cases hx
theorem rest_above {b : Bool} {now lo : Nat} {L pre : List Ms} {x : Ms} (hs : Ls.Srt (ltM b) L) (hlo : lo = low (fun e => decide (e.t ≤ now)) L) (h : pre ++ [x] <+: L.drop lo) : ¬ x.t ≤ now := by
  have hm : x ∈ L.drop lo := h.subset (by simp)
  obtain ⟨i, hi, hx⟩ := Ls.mem_drop hm
  have := Ls.mono_low (Ls.srtTM hs now) hx
  rw [decide_eq_false (by omega : ¬ i < low (fun e => decide (e.t ≤ now)) L)] at this
  simpa using this
theorem step_put {w W : World} {D : Nat} {o : Obj} (hK : W.heap[D]? = some (.deferred (some []))) (hD : w.heap.size + 1 + 1 < D) (hX : Boxed W (w.heap.size + 1 + 1) 4 (.bool true)) (hB : Below w.heap.size w W) :
    Boxed (W.putObj D o) (w.heap.size + 1 + 1) 4 (.bool true) ∧ Below w.heap.size w (W.putObj D o) := by
  have hg := grownBy_putObj' W D o
  have hr : ∀ r, some D = some r → w.heap.size ≤ r ∧ ∃ o : Obj, W.heap[r]? = some o ∧ o.isCells = false := fun r e => by cases e; exact ⟨by omega, _, hK, rfl⟩
  exact ⟨boxed_kept hX hg hr, (ownFrom_below (β := Unit) (Nat.le_refl _) (Nat.le_refl _)) () _ _ _ hB hg hr⟩
theorem sortsEnd {w W : World} {tm : Array Value} {D1 D2 : Nat} (h8 : tm[8]? = some (.pointer (some ⟨w.heap.size + 1 + 1, 0, none⟩))) (hX : Boxed W (w.heap.size + 1 + 1) 4 (.bool true)) (hB : Below w.heap.size w W)
    (hK1 : W.heap[D1]? = some (.deferred (some []))) (hK2 : W.heap[D2]? = some (.deferred (some []))) (hne : D1 ≠ D2) (hD1 : w.heap.size + 1 + 1 < D1) (hD2 : w.heap.size + 1 + 1 < D2) :
    bodyPostM WF 8 Try.prog Try.f4 (fun e W' => e = .returned (.bool true) ∧ Below w.heap.size w W') .ret { tmps := tm, defers := [{ target := .collected D2, args := #[] }, { target := .collected D1, args := #[] }] } W := by
  obtain ⟨x2, b2⟩ := step_put (o := .deferred none) hK2 hD2 hX hB
  have hK1' : (W.putObj D2 (.deferred none)).heap[D1]? = some (.deferred (some [])) := (World.putObj_heap_other hne).trans hK1
  obtain ⟨x1, b1⟩ := step_put (o := .deferred none) hK1' hD1 x2 b2
  have r1 := x1.cell
  refine ⟨by simp, .inl ⟨_, _, rfl, run_takeDeferred hK2, ?_⟩⟩
  refine ⟨by simp, .inl ⟨_, _, rfl, run_takeDeferred hK1', ?_⟩⟩
  exact ⟨_, by simp [results, Try.results4, go_sem, h8, r1], rfl, b1⟩
theorem k2_start {w W w4 : World} {b : Bool} {now g2 g n : Nat} {L : List Ms} {f : Txt → Option Nat} {sl v sl4 : Value} {lo D : Nat} (h : R1 w b now g2 g L f n sl L W) (hK : W.heap[D]? = some (.deferred (some []))) (hD : w.heap.size + 1 + 1 < D) (hb : Below W.heap.size W w4)
    (hr : RowG cX 1 9 w4 W.heap.size v ((L.take lo).map keyM)) (hs : SlG cM 2 w4 sl4 (L.drop lo)) : K2 w b now g2 g n L f sl v sl4 lo w4.heap.size D (w4.alloc (.cells #[fnM b, sl4] 62)) := by
  have hDl := (Array.getElem?_eq_some_iff.1 hK).1
  have hs4 := hb.size
  have hbb := below_alloc w4 (.cells #[fnM b, sl4] 62)
  exact ⟨(h.below hb).below hbb, (hr.sl encX).below hbb, hs.below hbb, Boxed2.new _ _ _ _, (hbb.block D (by omega)).trans ((hb.block D hDl).trans hK), by omega, hD⟩
theorem r2_start {w W : World} {b : Bool} {now g2 g n : Nat} {L : List Ms} {f : Txt → Option Nat} {sl v sl4 : Value} {lo g3 D : Nat} (h : K2 w b now g2 g n L f sl v sl4 lo g3 D W) : R2 w b now g2 g n L f sl v sl4 lo g3 D W.heap.size [] (W.alloc (.cells #[fnM b, sl4] 62)) :=
  ⟨h.below (below_alloc _ _), Boxed2.new _ _ _ _⟩
theorem stepR {w w1 w2 : World} {gN gm g3 g8 b n c B : Nat} {x0 x1 : Value} {f : Txt → Option Nat} (hB : B ≤ w.heap.size) (H : w1.cell? ⟨gN, 0, none⟩ = some (.int .i64 c) ∧ w1.cell? ⟨gm, 0, none⟩ = some (.map (some b)) ∧ w1.cell? ⟨g3, 0, none⟩ = some x0 ∧ w1.cell? ⟨g3, 1, none⟩ = some x1 ∧ w1.cell? ⟨g8, 0, none⟩ = some (cv w1 g8 0) ∧ w1.frozen? ⟨g8, 0, none⟩ = false ∧ (Builtin.len_ #[64] 3 #[.map (some b)]).run Try.prog w1 = .ok (.int .i64 c) w1 ∧ MapN w1 b n f c ∧ Below B w w1) (hb : Below w1.heap.size w1 w2) : w2.cell? ⟨gN, 0, none⟩ = some (.int .i64 c) ∧ w2.cell? ⟨gm, 0, none⟩ = some (.map (some b)) ∧ w2.cell? ⟨g3, 0, none⟩ = some x0 ∧ w2.cell? ⟨g3, 1, none⟩ = some x1 ∧ w2.cell? ⟨g8, 0, none⟩ = some (cv w2 g8 0) ∧ w2.frozen? ⟨g8, 0, none⟩ = false ∧ (Builtin.len_ #[64] 3 #[.map (some b)]).run Try.prog w2 = .ok (.int .i64 c) w2 ∧ MapN w2 b n f c ∧ Below B w w2 := by
  obtain ⟨h0, h1, h2, h3, h4, h5, h6, h7, hq⟩ := H
  have hlt : g8 < w1.heap.size := World.block_lt_of_cell? _ _ h4
  have h7' := h7.kept (hb.block _ h7.lt)
  refine ⟨(hb.cell (p := ⟨gN, 0, none⟩) (World.block_lt_of_cell? _ _ h0)).trans h0, (hb.cell (p := ⟨gm, 0, none⟩) (World.block_lt_of_cell? _ _ h1)).trans h1, (hb.cell (p := ⟨g3, 0, none⟩) (World.block_lt_of_cell? _ _ h2)).trans h2, (hb.cell (p := ⟨g3, 1, none⟩) (World.block_lt_of_cell? _ _ h3)).trans h3, ?_, (hb.frozen (p := ⟨g8, 0, none⟩) hlt).trans h5, h7'.len _, h7', hq.trans (hb.mono (Nat.le_trans hB hq.size))⟩
  exact cv_of (by rw [hb.cell (p := ⟨g8, 0, none⟩) hlt, h4]; rfl)
theorem stepRs {w w1 : World} {gN gm g3 g8 b n c B : Nat} {x0 x1 y : Value} {f : Txt → Option Nat} (H : w1.cell? ⟨gN, 0, none⟩ = some (.int .i64 c) ∧ w1.cell? ⟨gm, 0, none⟩ = some (.map (some b)) ∧ w1.cell? ⟨g3, 0, none⟩ = some x0 ∧ w1.cell? ⟨g3, 1, none⟩ = some x1 ∧ w1.cell? ⟨g8, 0, none⟩ = some (cv w1 g8 0) ∧ w1.frozen? ⟨g8, 0, none⟩ = false ∧ (Builtin.len_ #[64] 3 #[.map (some b)]).run Try.prog w1 = .ok (.int .i64 c) w1 ∧ MapN w1 b n f c ∧ Below B w w1) (e0 : g8 ≠ gN) (e1 : g8 ≠ gm) (e2 : g8 ≠ g3) (e3 : b ≠ g8) (hg : B ≤ g8) : (w1.setCell ⟨g8, 0, none⟩ y).cell? ⟨gN, 0, none⟩ = some (.int .i64 c) ∧ (w1.setCell ⟨g8, 0, none⟩ y).cell? ⟨gm, 0, none⟩ = some (.map (some b)) ∧ (w1.setCell ⟨g8, 0, none⟩ y).cell? ⟨g3, 0, none⟩ = some x0 ∧ (w1.setCell ⟨g8, 0, none⟩ y).cell? ⟨g3, 1, none⟩ = some x1 ∧ (w1.setCell ⟨g8, 0, none⟩ y).cell? ⟨g8, 0, none⟩ = some (cv (w1.setCell ⟨g8, 0, none⟩ y) g8 0) ∧ (w1.setCell ⟨g8, 0, none⟩ y).frozen? ⟨g8, 0, none⟩ = false ∧ (Builtin.len_ #[64] 3 #[.map (some b)]).run Try.prog (w1.setCell ⟨g8, 0, none⟩ y) = .ok (.int .i64 c) (w1.setCell ⟨g8, 0, none⟩ y) ∧ MapN (w1.setCell ⟨g8, 0, none⟩ y) b n f c ∧ Below B w (w1.setCell ⟨g8, 0, none⟩ y) := by
  obtain ⟨h0, h1, h2, h3, h4, h5, h6, h7, hq⟩ := H
  have h7' : MapN (w1.setCell ⟨g8, 0, none⟩ y) b n f c := h7.kept (Below.heap_setCell _ _ _ _ e3)
  refine ⟨(World.cell?_setCell_far w1 ⟨g8, 0, none⟩ ⟨gN, 0, none⟩ y e0).trans h0, (World.cell?_setCell_far w1 ⟨g8, 0, none⟩ ⟨gm, 0, none⟩ y e1).trans h1, (World.cell?_setCell_far w1 ⟨g8, 0, none⟩ ⟨g3, 0, none⟩ y e2).trans h2, (World.cell?_setCell_far w1 ⟨g8, 0, none⟩ ⟨g3, 1, none⟩ y e2).trans h3, cv_of (isSome_set (by rw [h4]; rfl)), (World.frozen?_setCell _ _ _ _).trans h5, h7'.len _, h7', hq.setCell hg _⟩
theorem firstR {w W : World} {b : Bool} {now g2 g n : Nat} {L : List Ms} {f : Txt → Option Nat} {sl v sl4 : Value} {lo g3 D : Nat} (h : K2 w b now g2 g n L f sl v sl4 lo g3 D W) : W.drew.cell? ⟨g, 0, none⟩ = some (.int .i64 L.length) ∧ W.drew.cell? ⟨g2 + 1 + 1, 0, none⟩ = some (.map (some (g2 + 1))) ∧ W.drew.cell? ⟨g3, 0, none⟩ = some (fnM b) ∧ W.drew.cell? ⟨g3, 1, none⟩ = some sl4 ∧ W.drew.cell? ⟨(w.heap.size + 1 + 1), 0, none⟩ = some (cv W.drew (w.heap.size + 1 + 1) 0) ∧ W.drew.frozen? ⟨(w.heap.size + 1 + 1), 0, none⟩ = false ∧ (Builtin.len_ #[64] 3 #[.map (some (g2 + 1))]).run Try.prog W.drew = .ok (.int .i64 L.length) W.drew ∧ MapN W.drew (g2 + 1) n f L.length ∧ Below w.heap.size w W.drew := by
  have h' := h.drewN 1
  have e : W.drewN 1 = W.drew := rfl
  rw [e] at h'
  exact ⟨h'.R.N.cell, h'.R.J.M.cell, h'.T.c0, h'.T.c1, cv_of (by rw [h'.R.J.b2.cell]; rfl), h'.R.J.b2.frozen, h'.R.J.F.len _, h'.R.J.F, h'.R.J.W⟩
theorem lenM_below (fn : Value) (a : Option Addr) (n c : Nat) (w : World) : Calls Try.prog 27 #[.agg #[fn, .slice a n c]] w fun e w' => e = .returned (.int .i64 n) ∧ Below w.heap.size w w' := (lenM_any fn a n c w).mono fun _ _ h => ⟨h.1, by rw [h.2]; exact below_alloc _ _⟩
theorem sortsEnd2 {w W w7 : World} {b : Bool} {now g2 g n : Nat} {L : List Ms} {f : Txt → Option Nat} {sl v sl4 : Value} {lo g3 D D2 : Nat} {tm : Array Value} (h8 : tm[8]? = some (.pointer (some ⟨w.heap.size + 1 + 1, 0, none⟩))) (h : K2 w b now g2 g n L f sl v sl4 lo g3 D W)
    (hK2 : W.heap[D2]? = some (.deferred (some []))) (hD2 : g3 < D2) (hb7 : Below W.heap.size W w7) :
    bodyPostM WF 8 Try.prog Try.f4 (fun e W' => e = .returned (.bool true) ∧ Below w.heap.size w W') .ret { tmps := tm, defers := [{ target := .collected D2, args := #[] }, { target := .collected D, args := #[] }] } (w7.setCell ⟨w.heap.size + 1 + 1, 0, none⟩ (.bool true)) := by
  have h7 := h.below hb7
  have hH := h.H
  have hG := h.G
  have hK7 := (hb7.block D2 (Array.getElem?_eq_some_iff.1 hK2).1).trans hK2
  have hs : ∀ k, w.heap.size + 1 + 1 < k → (w7.setCell ⟨w.heap.size + 1 + 1, 0, none⟩ (.bool true)).heap[k]? = w7.heap[k]? := fun k hk => Below.heap_setCell _ _ _ _ (by show k ≠ w.heap.size + 1 + 1; omega)
  exact sortsEnd h8 (h7.R.J.b2.set (.bool true)) (h7.R.J.W.setCell (p := ⟨w.heap.size + 1 + 1, 0, none⟩) (by show _ ≤ w.heap.size + 1 + 1; omega) _) ((hs D hH).trans h7.K) ((hs D2 (by omega)).trans hK7) (by omega) hH (by omega)
end Go.Proofs.Ytlkdfmfcjlfihaa
