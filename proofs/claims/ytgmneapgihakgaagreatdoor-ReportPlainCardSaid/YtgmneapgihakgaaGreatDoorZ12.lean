/- Texts of one seat, merged. -/
import Derived.Test.YtgmneapgihakgaaGreatDoorZ11
set_option maxRecDepth 100000
set_option maxHeartbeats 4000000
set_option linter.unusedVariables false
/- A range over a row whose variables lie in boxes. -/
namespace Go.Proofs.YtgmneapgihakgaaGreatDoor
open Go.RowKit
set_option maxHeartbeats 4000000 in
/-- As rangeF; the code ahead of a round may make memory (a variable that lies in a box). -/
theorem rangeA {α : Type} {encs : α → Array Value} {n : Nat} {g : Operand} {ps : Array Tmp} {assign body : Code} {Q : Exit → Act → World → Prop} {a : Act} {w : World} (h1 : 1 ≤ n) {gf : Nat} {lb : Array Value}
    (hg : a.eval g = .func (.func gf) #[] lb) (eg : ∀ args w, (callFunc gf args).run Tryz.prog w = .ok (.enter gf args) w) {G : World → Prop} {E : List α} (hseq : SeqF encs (n - 1) gf lb G E) (hps : ∀ x, (encs x).size = ps.size)
    (I X : List α → (Nat → Prop) → World → Prop) (M0 : Nat → Prop) (hM0 : ∀ k, M0 k → k < w.heap.size)
    (hI : ∀ pre M A B, I pre M A → Stays (fun k => M k ∨ k < w.heap.size) A B → I pre M B) (hX : ∀ pre M A B, X pre M A → Stays (fun k => M k ∨ k < w.heap.size) A B → X pre M B)
    (hIG : ∀ pre M A, I pre M A → G A) (h0 : I [] M0 w) (Ax : α → Act → World → Prop) (hAx : ∀ x a' A B, Ax x a' A → Stays (fun k => w.heap.size + 2 ≤ k) A B → Ax x a' B)
    (hassign : ∀ (l : Nat) (x : α) (W : World) (K : Act → World → Prop), w.heap.size + 2 ≤ W.heap.size → (∀ a' W', Below W.heap.size W W' → Ax x a' W' → K a' W') →
      assign.wpIn (WF.inRound l) (n - 1 - 1) Tryz.prog (Exit.then K (fun _ _ _ => False)) { tmps := (ps.zip (encs x)).foldl (fun t (p, v) => t.setIfInBounds p v) a.tmps, defers := [] } W)
    (hbody : ∀ (l : Nat) (pre : List α) (x : α) (M : Nat → Prop) (a' : Act) (W : World), I pre M W → Ax x a' W → w.heap.size ≤ W.heap.size → pre ++ [x] <+: E → body.wpIn (WF.inRound l) (n - 1 - 1) Tryz.prog (goesF I X (pre ++ [x]) M W) a' W)
    (hdone : ∀ (D : Nat) (M : Nat → Prop) (W : World), w.heap.size ≤ D → ¬ M D → I E M W → Stays (fun k => ¬ M0 k) w W → (∀ k, M k → M0 k ∨ w.heap.size ≤ k) → W.heap[D]? = some (.deferred (some [])) → Q .normal { a with defers := { target := .collected D, args := #[] } :: a.defers } W)
    (hstop : ∀ (D : Nat) (pre : List α) (M : Nat → Prop) (W : World), w.heap.size ≤ D → ¬ M D → X pre M W → Stays (fun k => ¬ M0 k) w W → (∀ k, M k → M0 k ∨ w.heap.size ≤ k) → W.heap[D]? = some (.deferred (some [])) → (Code.ret).wpIn WF n Tryz.prog Q { a with defers := { target := .collected D, args := #[] } :: a.defers } W) :
    (Code.rangeFunc g ps assign body).wpIn WF n Tryz.prog Q a w := by
  refine wpIn_rangeFunc (fun fn hfn => ?_)
  rw [show WF.round = none from rfl]
  obtain ⟨lp, hlp⟩ : ∃ lp : LoopState → Option Code → Loop, lp = fun st pe => { state := st, pending := pe, fn, tmps := a.tmps, params := ps, assign, body, defers := w.heap.size } := ⟨_, rfl⟩
  obtain ⟨X0, hX0⟩ : ∃ X0, X0 = (w.alloc (.deferred (some []))).alloc (.loop (lp .ready none)) := ⟨_, rfl⟩
  have xl : X0.heap[w.heap.size + 1]? = some (.loop (lp .ready none)) := by
    rw [hX0]; have := heap_alloc_new (w.alloc (.deferred (some []))) (.loop (lp .ready none)); rwa [World.size_alloc] at this
  have xd : X0.heap[w.heap.size]? = some (.deferred (some [])) := by
    rw [hX0]; exact (Below.heap_alloc _ _ _ (by simp)).trans (heap_alloc_new w _)
  have xs : X0.heap.size = w.heap.size + 2 := by rw [hX0]; simp
  have xb : Below w.heap.size w X0 := by rw [hX0]; exact ((Below.refl _ _).alloc (Nat.le_refl _) _).alloc (by simp) _
  have xi : I [] M0 X0 := hI _ _ _ _ h0 (Stays.below xb)
  refine ⟨w.heap.size + 1, [{ target := .collected w.heap.size, args := #[] }], X0, { target := .fn (.func gf) lb, args := #[.func (.yield (w.heap.size + 1)) #[] #[]] }, X0, gf, #[.func (.yield (w.heap.size + 1)) #[] #[]] ++ lb, X0, ?_, ?_, fun _ _ => trivial, ?_, fun _ => h1, ?_⟩
  · rw [hX0, hlp]; exact run_enterLoop_outer _ _ _ _ _
  · simp only [resolve, hg]
    simp [go_sem]
  · simp [invoke, go_sem, eg]
  · -- a set of blocks without the record's two; with them
    let Mj : (Nat → Prop) → Nat → Prop := fun M k => M k ∨ k = w.heap.size ∨ k = w.heap.size + 1
    refine (hseq (w.heap.size + 1)
      (fun pre N A => ∃ M, (∀ k, N k ↔ Mj M k) ∧ I pre M A ∧ ¬ M w.heap.size ∧ ¬ M (w.heap.size + 1) ∧ A.heap[w.heap.size + 1]? = some (.loop (lp .ready none)) ∧ A.heap[w.heap.size]? = some (.deferred (some [])))
      (fun pre N A => ∃ M, (∀ k, N k ↔ Mj M k) ∧ X pre M A ∧ ¬ M w.heap.size ∧ ¬ M (w.heap.size + 1) ∧ A.heap[w.heap.size + 1]? = some (.loop (lp .done (some .ret))) ∧ A.heap[w.heap.size]? = some (.deferred (some [])))
      X0 (Mj M0) ?_ ?_ ?_ ?_ ⟨M0, fun _ => Iff.rfl, xi, fun h => Nat.lt_irrefl _ (hM0 _ h), fun h => by have := hM0 _ h; omega, xl, xd⟩ ?_).mono ?_
    · rintro pre N A B ⟨M, hN, hi, n1, n2, hl, hd⟩ hs
      have lt1 := (Array.getElem?_eq_some_iff.1 hl).1
      have lt0 := (Array.getElem?_eq_some_iff.1 hd).1
      exact ⟨M, hN, hI _ _ _ _ hi (hs.sub (fun k hk _ => hk.elim (fun h => .inl ((hN k).2 (.inl h))) (fun h => .inr (by omega)))), n1, n2, (hs.same _ (.inl ((hN _).2 (.inr (.inr rfl)))) lt1).trans hl, (hs.same _ (.inl ((hN _).2 (.inr (.inl rfl)))) lt0).trans hd⟩
    · rintro pre N A B ⟨M, hN, hi, n1, n2, hl, hd⟩ hs
      have lt1 := (Array.getElem?_eq_some_iff.1 hl).1
      have lt0 := (Array.getElem?_eq_some_iff.1 hd).1
      exact ⟨M, hN, hX _ _ _ _ hi (hs.sub (fun k hk _ => hk.elim (fun h => .inl ((hN k).2 (.inl h))) (fun h => .inr (by omega)))), n1, n2, (hs.same _ (.inl ((hN _).2 (.inr (.inr rfl)))) lt1).trans hl, (hs.same _ (.inl ((hN _).2 (.inr (.inl rfl)))) lt0).trans hd⟩
    · rintro pre N A ⟨M, _, hi, _⟩
      exact hIG _ _ _ hi
    · rintro pre x N A ⟨M, hN, hi, n1, n2, hl, hd⟩ hpre
      have lt1 := (Array.getElem?_eq_some_iff.1 hl).1
      have lt0 := (Array.getElem?_eq_some_iff.1 hd).1
      have hy := run_yield (P := Tryz.prog) (args := encs x) hl (by rw [hlp]; exact hps x)
      rw [hlp] at hy
      refine ⟨fn, _, assign, body, hy, roundIn_of_wpIn hfn (hassign _ x A _ (by omega) (fun a' Aa hba hax => ?_))⟩
      have hAA : ∀ C : Nat → Prop, Stays C A Aa := fun C => Stays.below hba
      have szA : A.heap.size ≤ Aa.heap.size := hba.size
      have hAi : I pre M Aa := hI _ _ _ _ hi (hAA _)
      have hlA : Aa.heap[w.heap.size + 1]? = some (.loop (lp .ready none)) := (hba.block _ lt1).trans hl
      have hdA : Aa.heap[w.heap.size]? = some (.deferred (some [])) := (hba.block _ lt0).trans hd
      have lt1A : w.heap.size + 1 < Aa.heap.size := by omega
      refine ⟨_, run_beginRound hlA (by rw [hlp]), ?_⟩
      obtain ⟨W2, hW2⟩ : ∃ W2, W2 = Aa.putObj (w.heap.size + 1) (.loop { lp .ready none with state := .busy }) := ⟨_, rfl⟩
      have hl2 : W2.heap[w.heap.size + 1]? = some (.loop { lp .ready none with state := .busy }) := by rw [hW2]; exact World.putObj_heap_same lt1A
      have hd2 : W2.heap[w.heap.size]? = some (.deferred (some [])) := by rw [hW2]; exact (World.putObj_heap_other (by omega)).trans hdA
      have sz2 : A.heap.size ≤ W2.heap.size := by rw [hW2]; simp; omega
      have s2' : ∀ C : Nat → Prop, ¬ C (w.heap.size + 1) → Stays C Aa W2 := fun C hC => by rw [hW2]; exact Stays.put _ _ _ hC
      have s2 : ∀ C : Nat → Prop, ¬ C (w.heap.size + 1) → Stays C A W2 := fun C hC => (hAA C).trans (s2' C hC)
      have hi2 : I pre M W2 := hI _ _ _ _ hAi (s2' _ (fun h => h.elim n2 (fun h => by omega)))
      have hax2 : Ax x a' W2 := hAx _ _ _ _ hax (s2' _ (fun h => by omega))
      rw [← hW2]
      refine wpIn_mono (hbody _ pre x M a' W2 hi2 hax2 (by omega) hpre) ?_
      -- behind the body
      have fin : ∀ (jump : Option Code) (M' : Nat → Prop) (W3 : World), Went M M' W2 W3 →
          (Instr.endRound (w.heap.size + 1) jump).run Tryz.prog W3 = .ok (.bool jump.isNone) (W3.putObj (w.heap.size + 1) (.loop (lp (if jump.isNone then .ready else .done) jump))) ∧
          ¬ M' w.heap.size ∧ ¬ M' (w.heap.size + 1) ∧ Stays (fun k => M' k ∨ k < w.heap.size) W3 (W3.putObj (w.heap.size + 1) (.loop (lp (if jump.isNone then .ready else .done) jump))) ∧
          (W3.putObj (w.heap.size + 1) (.loop (lp (if jump.isNone then .ready else .done) jump))).heap[w.heap.size + 1]? = some (.loop (lp (if jump.isNone then .ready else .done) jump)) ∧
          (W3.putObj (w.heap.size + 1) (.loop (lp (if jump.isNone then .ready else .done) jump))).heap[w.heap.size]? = some (.deferred (some [])) ∧
          Went N (Mj M') A (W3.putObj (w.heap.size + 1) (.loop (lp (if jump.isNone then .ready else .done) jump))) := fun jump M' W3 hw => by
        have m1 : ¬ M' w.heap.size := fun h => (hw.grow _ h).elim n1 (fun h => by omega)
        have m2 : ¬ M' (w.heap.size + 1) := fun h => (hw.grow _ h).elim n2 (fun h => by omega)
        have hl3 : W3.heap[w.heap.size + 1]? = some (.loop { lp .ready none with state := .busy }) := (hw.stays.same _ n2 (by omega)).trans hl2
        have hd3 : W3.heap[w.heap.size]? = some (.deferred (some [])) := (hw.stays.same _ n1 (by omega)).trans hd2
        have he := run_endRound (P := Tryz.prog) jump hl3
        rw [hlp] at he ⊢
        refine ⟨he, m1, m2, Stays.put _ _ _ (fun h => h.elim m2 (fun h => by omega)), World.putObj_heap_same (Array.getElem?_eq_some_iff.1 hl3).1, (World.putObj_heap_other (by omega)).trans hd3, ⟨fun k hk => ?_, ?_⟩⟩
        · rcases hk with hk | hk
          · exact (hw.grow k hk).elim (fun h => .inl ((hN k).2 (.inl h))) (fun h => .inr (by omega))
          · exact .inl ((hN k).2 (.inr hk))
        · have nN : ¬ ¬ N (w.heap.size + 1) := fun h => h ((hN _).2 (.inr (.inr rfl)))
          exact ((s2 _ nN).trans (hw.stays.sub (fun k hk _ hm => hk ((hN k).2 (.inl hm))))).trans (Stays.put _ _ _ nN)
      rintro e a3 W3 hp
      cases e with
      | normal =>
        obtain ⟨M', hw, hi3⟩ := hp
        obtain ⟨he, m1, m2, hs, g1, g2, hW⟩ := fin none M' W3 hw
        exact ⟨_, _, he, Mj M', hW, .inl ⟨rfl, M', fun _ => Iff.rfl, hI _ _ _ _ hi3 hs, m1, m2, g1, g2⟩⟩
      | ret =>
        obtain ⟨M', hw, hi3⟩ := hp
        obtain ⟨he, m1, m2, hs, g1, g2, hW⟩ := fin (some .ret) M' W3 hw
        exact ⟨_, _, he, Mj M', hW, .inr ⟨rfl, M', fun _ => Iff.rfl, hX _ _ _ _ hi3 hs, m1, m2, g1, g2⟩⟩
      | _ => exact hp.elim
    · intro k hk
      rcases hk with hk | hk | hk
      · have := hM0 k hk; omega
      · omega
      · omega
    · rintro e W2 ⟨⟨v, rfl⟩, hst, N, hgr, (⟨M, hN, hi, n1, n2, hl, hd⟩ | ⟨pre, M, hN, hi, n1, n2, hl, hd⟩)⟩
      · have lt1 := (Array.getElem?_eq_some_iff.1 hl).1
        have hfin : ∀ o, Stays (fun k => M k ∨ k < w.heap.size) W2 (W2.putObj (w.heap.size + 1) o) := fun o => Stays.put _ _ _ (fun h => h.elim n2 (fun h => by omega))
        have hall : ∀ o, Stays (fun k => ¬ M0 k) w (W2.putObj (w.heap.size + 1) o) := fun o =>
          ⟨hst.os.trans xb.os, hst.tape.trans xb.tape, hst.output.trans xb.output, by have := hst.size; simp; omega, fun k hk hlt => (World.putObj_heap_other (by omega)).trans ((hst.same k (fun hm => hm.elim hk (fun h => by omega)) (by omega)).trans (xb.block k hlt))⟩
        exact ⟨none, _, by have := run_endLoop (P := Tryz.prog) hl (by rw [hlp]; simp); rw [hlp] at this; exact this, hdone _ M _ (Nat.le_refl _) n1 (hI _ _ _ _ hi (hfin _)) (hall _) (fun k hk => (hgr k ((hN k).2 (.inl hk))).elim (fun h => h.elim .inl (fun h => .inr (by omega))) (fun h => .inr (by omega))) ((World.putObj_heap_other (by omega)).trans hd)⟩
      · have lt1 := (Array.getElem?_eq_some_iff.1 hl).1
        have hfin : ∀ o, Stays (fun k => M k ∨ k < w.heap.size) W2 (W2.putObj (w.heap.size + 1) o) := fun o => Stays.put _ _ _ (fun h => h.elim n2 (fun h => by omega))
        have hall : ∀ o, Stays (fun k => ¬ M0 k) w (W2.putObj (w.heap.size + 1) o) := fun o =>
          ⟨hst.os.trans xb.os, hst.tape.trans xb.tape, hst.output.trans xb.output, by have := hst.size; simp; omega, fun k hk hlt => (World.putObj_heap_other (by omega)).trans ((hst.same k (fun hm => hm.elim hk (fun h => by omega)) (by omega)).trans (xb.block k hlt))⟩
        exact ⟨some .ret, _, by have := run_endLoop (P := Tryz.prog) hl (by rw [hlp]; simp); rw [hlp] at this; exact this, hstop _ pre M _ (Nat.le_refl _) n1 (hX _ _ _ _ hi (hfin _)) (hall _) (fun k hk => (hgr k ((hN k).2 (.inl hk))).elim (fun h => h.elim .inl (fun h => .inr (by omega))) (fun h => .inr (by omega))) ((World.putObj_heap_other (by omega)).trans hd)⟩
end Go.Proofs.YtgmneapgihakgaaGreatDoor
/- ask.Range over a shelf, one by one. -/
namespace Go.Proofs.YtgmneapgihakgaaGreatDoor
open Go.RowKit Go.Sort Go.Maps
open Tx (Rise At Ord above)
attribute [local go_sem] Oper.semAt_some
/-- The four boxes of a row that is asked for. -/
def w4 (W : World) (l : Nat) : World := (((W.alloc (.cells #[.func (.yield l) #[] #[]] 185)).alloc (.cells #[.bool false] 4)).alloc (.cells #[.bool false] 4)).alloc (.cells #[.func (.func 244) #[] #[.pointer (some ⟨W.heap.size + 1, 0, none⟩), .pointer (some ⟨W.heap.size, 0, none⟩), .pointer (some ⟨W.heap.size + 1 + 1, 0, none⟩)]] 185)
structure W4 (W : World) (l : Nat) (A : World) : Prop where
  y : Boxed A W.heap.size 185 (.func (.yield l) #[] #[])
  a : Boxed A (W.heap.size + 1) 4 (.bool false)
  o : Boxed A (W.heap.size + 1 + 1) 4 (.bool false)
  g : Boxed A (W.heap.size + 1 + 1 + 1) 185 (.func (.func 244) #[] #[.pointer (some ⟨W.heap.size + 1, 0, none⟩), .pointer (some ⟨W.heap.size, 0, none⟩), .pointer (some ⟨W.heap.size + 1 + 1, 0, none⟩)])
theorem w4_W4 (W : World) (l : Nat) : W4 W l (w4 W l) ∧ Below W.heap.size W (w4 W l) ∧ (w4 W l).heap.size = W.heap.size + 4 := by
  unfold w4
  refine ⟨⟨(((Boxed.new W _ _).alloc _).alloc _).alloc _, ?_, ?_, ?_⟩, ((((Below.refl _ _).alloc (Nat.le_refl _) _).alloc (by simp) _).alloc (by simp; omega) _).alloc (by simp; omega) _, by simp⟩
  · have := Boxed.new (W.alloc (.cells #[.func (.yield l) #[] #[]] 185)) 4 (.bool false)
    rw [World.size_alloc] at this
    exact (this.alloc _).alloc _
  · have := Boxed.new ((W.alloc (.cells #[.func (.yield l) #[] #[]] 185)).alloc (.cells #[.bool false] 4)) 4 (.bool false)
    rw [World.size_alloc, World.size_alloc] at this
    exact this.alloc _
  · have := Boxed.new (((W.alloc (.cells #[.func (.yield l) #[] #[]] 185)).alloc (.cells #[.bool false] 4)).alloc (.cells #[.bool false] 4)) 185 (.func (.func 244) #[] #[.pointer (some ⟨W.heap.size + 1, 0, none⟩), .pointer (some ⟨W.heap.size, 0, none⟩), .pointer (some ⟨W.heap.size + 1 + 1, 0, none⟩)])
    rw [World.size_alloc, World.size_alloc, World.size_alloc] at this
    exact this
theorem W4.keep {W : World} {l : Nat} {A B : World} (h : W4 W l A) (hs : ∀ k, W.heap.size ≤ k → k < W.heap.size + 4 → B.heap[k]? = A.heap[k]?) : W4 W l B :=
  ⟨(hs _ (by omega) (by omega)).trans h.y, (hs _ (by omega) (by omega)).trans h.a, (hs _ (by omega) (by omega)).trans h.o, (hs _ (by omega) (by omega)).trans h.g⟩
structure ARangeG (p sp mb B nn b1 b2 b3 : Nat) (v : Value) (ks : List Txt) (f : Txt → Txt) (fr up : Txt) (A : World) : Prop where
  sh : Sh A p sp mb B nn v ks f
  c1 : A.cell? ⟨b1, 0, none⟩ = some (.iface 25 (.pointer (some ⟨p, 0, none⟩)))
  c2 : A.cell? ⟨b2, 0, none⟩ = some (.string (str fr))
  c3 : A.cell? ⟨b3, 0, none⟩ = some (.string (str up))
theorem callsIn_any {m m' l' : Nat} {f : FuncId} {args : Array Value} {w : World} {R : Ending → World → Prop} (h : CallsIn WF m Tryz.prog f args w R) : CallsIn (WF.inRound l') m' Tryz.prog f args w R :=
  ⟨h.1, fun cs _ => h.2 cs (fun d hd => by cases hd)⟩
theorem r3_0 (w : World) (o1 o2 : Obj) (x : Value) (T : TypeId) : (((w.alloc (.cells #[x] T)).alloc o1).alloc o2).cell? ⟨w.heap.size, 0, none⟩ = some x := (((Boxed.new w T x).alloc _).alloc _).cell
theorem r3_1 (w : World) (o1 o2 : Obj) (x : Value) (T : TypeId) : (((w.alloc o1).alloc (.cells #[x] T)).alloc o2).cell? ⟨w.heap.size + 1, 0, none⟩ = some x := by
  have := (Boxed.new (w.alloc o1) T x).alloc o2
  rw [World.size_alloc] at this
  exact this.cell
/-- What ask.Range's rounds keep. -/
structure ARI (W : World) (l p : Nat) (fr up : Txt) (J : List (Txt × Txt) → (Nat → Prop) → World → Prop) (pre : List (Txt × Txt)) (N : Nat → Prop) (A : World) : Prop where
  own : ∃ M : Nat → Prop, (∀ k, N k ↔ M k ∨ k = W.heap.size + 1 ∨ k = W.heap.size + 1 + 1) ∧ J pre M A ∧ (∀ k, M k → k < W.heap.size ∨ W.heap.size + 7 ≤ k)
  b : W4 W l A
  c1 : A.cell? ⟨W.heap.size + 1 + 1 + 1 + 1, 0, none⟩ = some (.pointer (some ⟨p, 0, none⟩))
  c2 : A.cell? ⟨W.heap.size + 1 + 1 + 1 + 1 + 1, 0, none⟩ = some (.string (str fr))
  c3 : A.cell? ⟨W.heap.size + 1 + 1 + 1 + 1 + 1 + 1, 0, none⟩ = some (.string (str up))
  size : W.heap.size + 7 ≤ A.heap.size
/-- What they leave where they are left. -/
def ARX (W : World) (X : List (Txt × Txt) → (Nat → Prop) → World → Prop) (pre : List (Txt × Txt)) (N : Nat → Prop) (A : World) : Prop :=
  ∃ M : Nat → Prop, (∀ k, N k ↔ M k ∨ k = W.heap.size + 1 ∨ k = W.heap.size + 1 + 1) ∧ X pre M A ∧ (∀ k, M k → k < W.heap.size ∨ W.heap.size + 7 ≤ k) ∧ Boxed A (W.heap.size + 1) 4 (.bool false)
theorem ARI.stays {W : World} {l p s : Nat} {fr up : Txt} {J : List (Txt × Txt) → (Nat → Prop) → World → Prop} (hJ : ∀ pre M A B, J pre M A → Stays (fun k => M k ∨ k < W.heap.size) A B → J pre M B) (hs : s = W.heap.size + 7) {pre : List (Txt × Txt)} {N : Nat → Prop} {A B : World} (h : ARI W l p fr up J pre N A) (st : Stays (fun k => N k ∨ k < s) A B) : ARI W l p fr up J pre N B := by
  obtain ⟨⟨M, hN, hj, hM⟩, b, c1, c2, c3, sz⟩ := h
  have lo : ∀ k, k < W.heap.size + 7 → B.heap[k]? = A.heap[k]? := fun k hk => st.same k (.inr (by omega)) (by omega)
  exact ⟨⟨M, hN, hJ _ _ _ _ hj (st.sub (fun k hk _ => hk.elim (fun h => .inl ((hN k).2 (.inl h))) (fun h => .inr (by omega)))), hM⟩, b.keep (fun k _ h2 => lo k (by omega)), (cell_same (lo _ (by omega)) 0).trans c1, (cell_same (lo _ (by omega)) 0).trans c2, (cell_same (lo _ (by omega)) 0).trans c3, Nat.le_trans sz st.size⟩
theorem ARX.stays {W : World} {s : Nat} {X : List (Txt × Txt) → (Nat → Prop) → World → Prop} (hX : ∀ pre M A B, X pre M A → Stays (fun k => M k ∨ k < W.heap.size) A B → X pre M B) (hs : s = W.heap.size + 7) {pre : List (Txt × Txt)} {N : Nat → Prop} {A B : World} (h : ARX W X pre N A) (st : Stays (fun k => N k ∨ k < s) A B) : ARX W X pre N B := by
  obtain ⟨M, hN, hj, hM, b⟩ := h
  exact ⟨M, hN, hX _ _ _ _ hj (st.sub (fun k hk _ => hk.elim (fun h => .inl ((hN k).2 (.inl h))) (fun h => .inr (by omega)))), hM, (st.same _ (.inr (by omega)) b.lt).trans b⟩
/-- The pair's box of a round. -/
structure PBox (lo bx : Nat) (x : Txt × Txt) (A : World) : Prop where
  lo : lo ≤ bx
  c0 : A.cell? ⟨bx, 0, none⟩ = some (.string (str x.1))
  c1 : A.cell? ⟨bx, 1, none⟩ = some (.string (str x.2))
/-- What a round's give leaves. -/
def GivePost (A : World) (g : Nat) (J X : List (Txt × Txt) → (Nat → Prop) → World → Prop) (pre : List (Txt × Txt)) (M : Nat → Prop) (b : Bool) (A2 : World) : Prop :=
  ∃ M' A1, Stays (fun k => k ≠ g) A A1 ∧ Went M M' A1 A2 ∧ ((b = true ∧ J pre M' A2) ∨ (b = false ∧ X pre M' A2))
theorem GivePost.went {A A2 A3 : World} {g : Nat} {J X : List (Txt × Txt) → (Nat → Prop) → World → Prop} {pre : List (Txt × Txt)} {M N : Nat → Prop} {b : Bool} (h : GivePost A g J X pre M b A2) (hN : ∀ k, N k ↔ M k ∨ k = g ∨ k = g + 1) (hs : Stays (fun k => k ≠ g ∧ k ≠ g + 1) A2 A3) (hg : g + 1 < A.heap.size) :
    ∃ M', Went N (fun k => M' k ∨ k = g ∨ k = g + 1) A A3 ∧ (∀ k, M' k → M k ∨ A.heap.size ≤ k) ∧ ((b = true ∧ J pre M' A2) ∨ (b = false ∧ X pre M' A2)) := by
  obtain ⟨M', A1, h1, h2, h3⟩ := h
  have gr : ∀ k, M' k → M k ∨ A.heap.size ≤ k := fun k hk => (h2.grow k hk).imp id (fun h => Nat.le_trans h1.size h)
  refine ⟨M', ⟨fun k hk => ?_, ?_⟩, gr, h3⟩
  · rcases hk with hk | hk
    · exact (gr k hk).imp (fun h => (hN k).2 (.inl h)) id
    · exact .inl ((hN k).2 (.inr hk))
  · exact ((h1.sub (fun k hk _ h => hk ((hN k).2 (.inr (.inl h))))).trans (h2.stays.sub (fun k hk _ h => hk ((hN k).2 (.inl h))))).trans (hs.sub (fun k hk _ => ⟨fun h => hk ((hN k).2 (.inr (.inl h))), fun h => hk ((hN k).2 (.inr (.inr h)))⟩))
theorem aGive_fin {W A A2 W3 : World} {l p : Nat} {fr up : Txt} {J X : List (Txt × Txt) → (Nat → Prop) → World → Prop} {pre pre' : List (Txt × Txt)} {M N : Nat → Prop} {b : Bool}
    (hJ : ∀ pre M A B, J pre M A → Stays (fun k => M k ∨ k < W.heap.size) A B → J pre M B) (hX : ∀ pre M A B, X pre M A → Stays (fun k => M k ∨ k < W.heap.size) A B → X pre M B)
    (hI : ARI W l p fr up J pre N A) (hN : ∀ k, N k ↔ M k ∨ k = W.heap.size + 1 ∨ k = W.heap.size + 1 + 1) (hM : ∀ k, M k → k < W.heap.size ∨ W.heap.size + 7 ≤ k)
    (hp : GivePost A (W.heap.size + 1) J X pre' M b A2) (hs : Stays (fun k => k ≠ W.heap.size + 1 ∧ k ≠ W.heap.size + 1 + 1) A2 W3) (ha : Boxed W3 (W.heap.size + 1) 4 (.bool false)) (ho : b = true → Boxed W3 (W.heap.size + 1 + 1) 4 (.bool false)) :
    (b = true → ∃ N', Went N N' A W3 ∧ ARI W l p fr up J pre' N' W3) ∧ (b = false → ∃ N', Went N N' A W3 ∧ ARX W X pre' N' W3) := by
  have sz := hI.size
  obtain ⟨M', hw, gr, h3⟩ := hp.went hN hs (by omega)
  have hM' : ∀ k, M' k → k < W.heap.size ∨ W.heap.size + 7 ≤ k := fun k hk => (gr k hk).elim (hM k) (fun h => .inr (by omega))
  have hsJ : Stays (fun k => M' k ∨ k < W.heap.size) A2 W3 := hs.sub (fun k hk _ => by rcases hk with hk | hk; have := hM' k hk; omega; omega)
  have nN : ∀ k, W.heap.size ≤ k → k < W.heap.size + 7 → k ≠ W.heap.size + 1 → k ≠ W.heap.size + 1 + 1 → W3.heap[k]? = A.heap[k]? := fun k h1 h2 h4 h5 => hw.stays.same k (fun h => by rcases (hN k).1 h with h | h | h; have := hM k h; omega; exact h4 h; exact h5 h) (by omega)
  refine ⟨fun hb => ?_, fun hb => ?_⟩
  · subst hb
    have hj : J pre' M' A2 := by rcases h3 with ⟨_, h⟩ | ⟨h, _⟩; exact h; cases h
    refine ⟨_, hw, ⟨⟨M', fun _ => Iff.rfl, hJ _ _ _ _ hj hsJ, hM'⟩, ⟨(nN _ (by omega) (by omega) (by omega) (by omega)).trans hI.b.y, ha, ho rfl, (nN _ (by omega) (by omega) (by omega) (by omega)).trans hI.b.g⟩, (cell_same (nN _ (by omega) (by omega) (by omega) (by omega)) 0).trans hI.c1, (cell_same (nN _ (by omega) (by omega) (by omega) (by omega)) 0).trans hI.c2, (cell_same (nN _ (by omega) (by omega) (by omega) (by omega)) 0).trans hI.c3, by have := hw.stays.size; omega⟩⟩
  · subst hb
    have hx : X pre' M' A2 := by rcases h3 with ⟨h, _⟩ | ⟨_, h⟩; cases h; exact h
    exact ⟨_, hw, ⟨M', fun _ => Iff.rfl, hX _ _ _ _ hx hsJ, hM', ha⟩⟩
theorem stays_two {W wF W' : World} {C C' : Nat → Prop} (hb : Below W.heap.size W wF) (hst : Stays C wF W') (hC : ∀ k, C' k → k < W.heap.size → C k) : Stays C' W W' :=
  ⟨hst.os.trans hb.os, hst.tape.trans hb.tape, hst.output.trans hb.output, Nat.le_trans hb.size hst.size, fun k hk hlt => (hst.same k (hC k hk hlt) (Nat.lt_of_lt_of_le hlt hb.size)).trans (hb.block k hlt)⟩
/-- Behind the row: the mark, and the deferred closure that finds nothing. -/
theorem aRange_leave {W' : World} {D g o q n : Nat} {tmps : Array Value} {R : Ending → World → Prop} (hK : W'.heap[D]? = some (.deferred (some []))) (ha : Boxed W' g 4 (.bool false)) (hD : D ≠ g)
    (hR : ∀ v, R (.returned v) (W'.putObj D (.deferred none))) (hv : ∀ w, ∃ v, (results Tryz.f243 tmps).run Tryz.prog w = .ok v w) :
    LeavesInM WF n Tryz.prog Tryz.f243 tmps R [{ target := .collected D, args := #[] }, { target := .fn (.func 245) #[.pointer (some ⟨g, 0, none⟩), .pointer (some ⟨o, 0, none⟩), .pointer (some ⟨q, 0, none⟩)], args := #[] }] .returning W' := by
  refine ⟨by simp, .inl ⟨D, _, rfl, run_takeDeferred hK, ?_⟩⟩
  refine ⟨by simp, .inr ⟨fun h => (by cases h), .func 245, #[.pointer (some ⟨g, 0, none⟩), .pointer (some ⟨o, 0, none⟩), .pointer (some ⟨q, 0, none⟩)], 245, _, rfl, by simp [invoke, go_sem]; rfl, fun _ _ => trivial, ?_⟩⟩
  have hg : (W'.putObj D (.deferred none)).cell? ⟨g, 0, none⟩ = some (.bool false) := (cell_same (World.putObj_heap_other (fun e => hD e.symm)) 0).trans ha.cell
  refine (idleRange (n - 1) ⟨g, 0, none⟩ ⟨o, 0, none⟩ ⟨q, 0, none⟩ _ hg).mono ?_
  rintro e u' w' ⟨rfl, rfl, rfl⟩
  obtain ⟨v, hv⟩ := hv (W'.putObj D (.deferred none))
  exact ⟨v, hv, hR v⟩
set_option maxHeartbeats 8000000 in
theorem aRange1F (n : Nat) (hn : 6 ≤ n) (p sp mb B nn b1 b2 b3 : Nat) (v : Value) (ks : List Txt) (f : Txt → Txt) (fr up : Txt) (hks : ks.length ≤ 100000) (hkl : ∀ k ∈ ks, k.length ≤ maxLen) :
    SeqF encP n 243 #[.pointer (some ⟨b1, 0, none⟩), .pointer (some ⟨b2, 0, none⟩), .pointer (some ⟨b3, 0, none⟩)] (ARangeG p sp mb B nn b1 b2 b3 v ks f fr up) (between ks f fr up) := by
  intro l J X W M0 hJ hX hG hY h0 hM0
  have h1n : 1 ≤ n := by omega
  have HG0 := Lib.hid (hG _ _ _ h0)
  have c1 := HG0.out.c1
  have c2 := HG0.out.c2
  have c3 := HG0.out.c3
  have hmeth := mRange p
  have hmf : ∀ (fn : Fn) (first cap : Array Value) (w : World), (Instr.makeFunc fn first cap).run Tryz.prog w = .ok (.func fn first cap) w := fun _ _ _ _ => rfl
  have hmx := mixed
  have HB1 : Hid (b1 < W.heap.size ∧ b2 < W.heap.size ∧ b3 < W.heap.size) := ⟨World.block_lt_of_cell? _ _ c1, World.block_lt_of_cell? _ _ c2, World.block_lt_of_cell? _ _ c3⟩
  obtain ⟨l1, l2, l3⟩ := HB1.out
  refine callsIn_of_wp_marks Tryz.func243 rfl trivial ?_ rfl
  simp only [Tryz.ntmps243, List.size_toArray, List.length_cons, List.length_nil, Nat.reduceAdd, Nat.reduceSub, Array.replicate_succ, Array.replicate_zero, List.push_toArray, List.append_toArray, List.nil_append, List.cons_append]
  refine (wpIn_wide (n := n)).2 ?_
  obtain ⟨Q, hQ⟩ : ∃ Q, Q = bodyPostM WF n Tryz.prog Tryz.f243 (fun e W' => (∃ v, e = .returned v) ∧ Stays (fun k => ¬ M0 k) W W' ∧ ∃ M', (∀ k, M' k → M0 k ∨ W.heap.size ≤ k) ∧ (J (between ks f fr up) M' W' ∨ ∃ pre, X pre M' W')) := ⟨_, rfl⟩
  rw [← hQ]
  have HQ := Lib.hid hQ
  clear hQ
  have HW4 := Lib.hid (w4_W4 W l)
  have e1 := (HW4.out.2.1.cell (p := ⟨b1, 0, none⟩) l1).trans c1
  have e2 := (HW4.out.2.1.cell (p := ⟨b2, 0, none⟩) l2).trans c2
  have e3 := (HW4.out.2.1.cell (p := ⟨b3, 0, none⟩) l3).trans c3
  unfold w4 at e1 e2 e3
  go_wp2_with (go_at_call 24; (refine (shRange_any _ _ _ _).mono ?_); rintro e wF ⟨rfl, hwF⟩)
  have HF : Hid (ARI W l p fr up J [] (fun k => M0 k ∨ k = W.heap.size + 1 ∨ k = W.heap.size + 1 + 1) wF ∧ wF.heap.size = W.heap.size + 7 ∧ Below W.heap.size W wF) := by
    have hw : wF = (((w4 W l).alloc (.cells #[.pointer (some ⟨p, 0, none⟩)] 25)).alloc (.cells #[.string (str fr)] 9)).alloc (.cells #[.string (str up)] 9) := hwF
    have sz := HW4.out.2.2
    have hb2 : Below (w4 W l).heap.size (w4 W l) wF := by rw [hw]; exact (((Below.refl _ _).alloc (Nat.le_refl _) _).alloc (by simp) _).alloc (by simp; omega) _
    have hb : Below W.heap.size W wF := HW4.out.2.1.trans (hb2.mono (by omega))
    have hz : wF.heap.size = W.heap.size + 7 := by rw [hw]; simp; omega
    have e4 : (w4 W l).heap.size = W.heap.size + 1 + 1 + 1 + 1 := by omega
    refine ⟨⟨⟨M0, fun _ => Iff.rfl, hJ _ _ _ _ h0 (Stays.below hb), fun k hk => .inl (hM0 k hk)⟩, HW4.out.1.keep (fun k _ hk => hb2.block k (by omega)), ?_, ?_, ?_, by omega⟩, hz, hb⟩
    · have := r3_0 (w4 W l) (.cells #[.string (str fr)] 9) (.cells #[.string (str up)] 9) (.pointer (some ⟨p, 0, none⟩)) 25
      rw [e4] at this; rw [hw]; exact this
    · have := r3_1 (w4 W l) (.cells #[.pointer (some ⟨p, 0, none⟩)] 25) (.cells #[.string (str up)] 9) (.string (str fr)) 9
      rw [e4] at this; rw [hw]; exact this
    · have := World.cell?_alloc_new (((w4 W l).alloc (.cells #[.pointer (some ⟨p, 0, none⟩)] 25)).alloc (.cells #[.string (str fr)] 9)) #[.string (str up)] 9 0
      rw [World.size_alloc, World.size_alloc, e4] at this; rw [hw]; exact this
  rw [← hwF]
  clear hwF
  refine (wpIn_wide (n := n)).1 ?_
  have hzF := HF.out.2.1
  refine rangeA (n := n) h1n (gf := 99) (lb := #[.pointer (some ⟨W.heap.size + 1 + 1 + 1 + 1, 0, none⟩), .pointer (some ⟨W.heap.size + 1 + 1 + 1 + 1 + 1, 0, none⟩), .pointer (some ⟨W.heap.size + 1 + 1 + 1 + 1 + 1 + 1, 0, none⟩)]) rfl (fun args w => by kernel_rfl)
    (shRange1F (n - 1) (by omega) p sp mb B nn _ _ _ v ks f fr up hks hkl) (fun x => rfl)
    (ARI W l p fr up J) (ARX W X) (fun k => M0 k ∨ k = W.heap.size + 1 ∨ k = W.heap.size + 1 + 1) (fun k hk => by rcases hk with hk | hk | hk; have := hM0 k hk; omega; omega; omega)
    (fun pre M A B h hs => h.stays hJ hzF hs) (fun pre M A B h hs => h.stays hX hzF hs)
    (fun pre M A h => by obtain ⟨M', _, hj, _⟩ := h.own; exact ⟨(hG _ _ _ hj).sh, h.c1, h.c2, h.c3⟩)
    HF.out.1
    (fun x a' A => ∃ bx, PBox (W.heap.size + 9) bx x A ∧ a' = { tmps := #[.func (.yield l) #[] #[], .pointer (some ⟨b1, 0, none⟩), .pointer (some ⟨b2, 0, none⟩), .pointer (some ⟨b3, 0, none⟩), .pointer (some ⟨W.heap.size, 0, none⟩), .pointer (some ⟨W.heap.size + 1, 0, none⟩), .pointer (some ⟨W.heap.size + 1 + 1, 0, none⟩), .pointer (some ⟨W.heap.size + 1 + 1 + 1, 0, none⟩), .pointer (some ⟨bx, 0, none⟩), .int .i64 0,
      .func (.func 244) #[] #[.pointer (some ⟨W.heap.size + 1, 0, none⟩), .pointer (some ⟨W.heap.size, 0, none⟩), .pointer (some ⟨W.heap.size + 1 + 1, 0, none⟩)], .func (.func 245) #[] #[.pointer (some ⟨W.heap.size + 1, 0, none⟩), .pointer (some ⟨W.heap.size + 1 + 1, 0, none⟩), .pointer (some ⟨W.heap.size + 1 + 1 + 1, 0, none⟩)],
      .iface 25 (.pointer (some ⟨p, 0, none⟩)), .string (str fr), .string (str up), .func (.func 99) #[] #[.pointer (some ⟨W.heap.size + 1 + 1 + 1 + 1, 0, none⟩), .pointer (some ⟨W.heap.size + 1 + 1 + 1 + 1 + 1, 0, none⟩), .pointer (some ⟨W.heap.size + 1 + 1 + 1 + 1 + 1 + 1, 0, none⟩)], prV x.1 x.2, .int .i64 0, undef, undef, undef, undef, undef, undef, undef, undef], defers := [] })
    (fun x a' A B ⟨bx, h, e⟩ hs => ⟨bx, ⟨h.lo, (cell_same (hs.same bx (by have := h.lo; omega) (World.block_lt_of_cell? _ _ h.c0)) 0).trans h.c0, (cell_same (hs.same bx (by have := h.lo; omega) (World.block_lt_of_cell? _ _ h.c0)) 1).trans h.c1⟩, e⟩) ?assign ?body ?done ?stop
  case assign =>
    intro l' x A K hsz hK
    have HK := Lib.hid hK
    clear hK
    unfold encP prV
    gi_wp2
    exact HK.out _ _ ((Below.refl _ _).alloc (Nat.le_refl _) _) ⟨_, ⟨by omega, World.cell?_alloc_new A _ _ 0, World.cell?_alloc_new A _ _ 1⟩, rfl⟩
  case body =>
    rintro l' pre x N a' A hI ⟨bx, hbx, rfl⟩ hsz hpre
    obtain ⟨M, hN, hj, hM⟩ := hI.own
    have HI := Lib.hid hI
    have HN := Lib.hid hN
    have HM := Lib.hid hM
    have k1 := hI.b.g.cell
    have k2 := hbx.c0
    have k3 := hbx.c1
    have HG1 := Lib.hid (give_any (n - 1 - 1 - 1) (by omega) (l := l) x.1 x.2 0 A hI.b.a hI.b.o hI.b.y.cell ⟨by omega, by omega⟩ (GivePost A (W.heap.size + 1) J X (pre ++ [x]) M) (fun A1 hs => by
      have hj1 : J pre M A1 := hJ _ _ _ _ hj (hs.sub (fun k hk _ => by rcases hk with hk | hk; have := hM k hk; omega; omega))
      obtain ⟨fn, tmps, assign, body, hy, hR⟩ := hY pre x M A1 hj1 hpre
      refine ⟨fn, tmps, assign, body, hy, (show RoundIn WF (n - 1 - 1 - 1 - 1) _ _ _ _ _ _ _ _ from ⟨hR.1, fun c cs _ => hR.2 c cs (fun d hd => by cases hd)⟩).mono ?_⟩
      rintro e' A2 ⟨M', hw, ho⟩
      have s1 := hs.size
      have s0 := HI.out.size
      have nm : ∀ k, W.heap.size ≤ k → k < W.heap.size + 7 → ¬ M k := fun k h1 h2 h => by have := hM k h; omega
      have g1 := hw.stays.same (W.heap.size + 1) (nm _ (by omega) (by omega)) (by omega)
      have g2 := hw.stays.same (W.heap.size + 1 + 1) (nm _ (by omega) (by omega)) (by omega)
      rcases ho with ⟨rfl, hj2⟩ | ⟨rfl, hx2⟩
      · exact ⟨true, rfl, ⟨M', A1, hs, hw, .inl ⟨rfl, hj2⟩⟩, hw.stays.size, g1, g2⟩
      · exact ⟨false, rfl, ⟨M', A1, hs, hw, .inr ⟨rfl, hx2⟩⟩, hw.stays.size, g1, g2⟩))
    clear hI hN hM hbx hj hpre
    unfold prV at HG1
    unfold prV
    gi_wp2_with (refine ⟨trivial, fun h => (by cases h), ?_⟩; refine (callsIn_any HG1.out).mono ?_; rintro e W3 ⟨b, A2, rfl, hp, hs3, ha3, ho3⟩; have HP := Lib.hid hp; have HS3 := Lib.hid hs3; have HA3 := Lib.hid ha3; have HO3 := Lib.hid ho3; clear hp hs3 ha3 ho3)
    all_goals
      have fin := aGive_fin hJ hX HI.out HN.out HM.out HP.out HS3.out HA3.out (fun hb => by have := HO3.out; rw [hb] at this; exact this)
      clear HG1 HP HS3 HA3 HO3
      cases b
      first
        | exact fin.2 rfl
        | (rename_i hb; exact absurd hb (by simp))
      first
        | exact fin.1 rfl
        | (rename_i hb; exact absurd hb (by simp))
  case done =>
    intro D N W' hD hND hI hst hgr hK
    obtain ⟨M, hN, hj, hM⟩ := hI.own
    have HI := Lib.hid hI
    have HK := Lib.hid hK
    have HJ := Lib.hid (hJ _ _ _ (W'.putObj D (.deferred none)) hj (Stays.put _ _ _ (fun h => h.elim (fun h => hND ((hN D).2 (.inl h))) (fun h => by omega))))
    clear hI hK hj
    gi_wp2
    rw [HQ.out]
    refine aRange_leave HK.out HI.out.b.a (by omega) (fun v => ⟨⟨_, rfl⟩, stays_putNew (stays_two HF.out.2.2 hst (fun k hk hlt h => by rcases h with h | h | h; exact hk h; omega; omega)) (by omega) _, M, fun k hk => ?_, .inl HJ.out⟩) (fun w => ⟨_, results_none rfl _ _ _⟩)
    rcases hgr k ((hN k).2 (.inl hk)) with h | h
    · rcases h with h | h | h
      · exact .inl h
      · exact .inr (by omega)
      · exact .inr (by omega)
    · exact .inr (by omega)
  case stop =>
    intro D pre N W' hD hND hXx hst hgr hK
    obtain ⟨M, hN, hx, hM, hb⟩ := hXx
    have HB := Lib.hid hb
    have HK := Lib.hid hK
    have HX := Lib.hid (hX _ _ _ (W'.putObj D (.deferred none)) hx (Stays.put _ _ _ (fun h => h.elim (fun h => hND ((hN D).2 (.inl h))) (fun h => by omega))))
    clear hx hK hb
    gi_wp2
    rw [HQ.out]
    refine aRange_leave HK.out HB.out (by omega) (fun v => ⟨⟨_, rfl⟩, stays_putNew (stays_two HF.out.2.2 hst (fun k hk hlt h => by rcases h with h | h | h; exact hk h; omega; omega)) (by omega) _, M, fun k hk => ?_, .inr ⟨_, HX.out⟩⟩) (fun w => ⟨_, results_none rfl _ _ _⟩)
    rcases hgr k ((hN k).2 (.inl hk)) with h | h
    · rcases h with h | h | h
      · exact .inl h
      · exact .inr (by omega)
      · exact .inr (by omega)
    · exact .inr (by omega)
end Go.Proofs.YtgmneapgihakgaaGreatDoor
