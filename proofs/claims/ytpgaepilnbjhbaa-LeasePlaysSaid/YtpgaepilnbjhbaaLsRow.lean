/- The law's row of a table. -/
import Derived.Test.YtpgaepilnbjhbaaLsDueL
set_option maxRecDepth 100000
set_option maxHeartbeats 4000000
set_option linter.unusedVariables false
namespace Go.Proofs.Ytpgaepilnbjhbaa
open Go.RowKit
open Ls (Txt Ln Ms)
attribute [local go_sem] Oper.semAt_some store_fn store_nil
/-- What a round keeps within row. -/
structure RW (w : World) (fn sl : Value) (pre : List Ln) (W : World) : Prop where
  D : ∃ v, Boxed W (w.heap.size + 1) 29 v ∧ RowG cL 3 45 W w.heap.size v pre
  A : Boxed2 W (w.heap.size + 1 + 1) 27 fn sl
  W : Below w.heap.size w W
theorem RW.own (w : World) (fn sl : Value) (B : Nat) (hB : w.heap.size ≤ B) : OwnFrom B (RW w fn sl) := fun pre _ _ _ h hg hr => by
  obtain ⟨v, h1, h2⟩ := h.D
  exact ⟨⟨v, boxed_kept h1 hg hr, h2.kept hg hr⟩, h.A.kept hg hr, (ownFrom_below (β := Unit) (Nat.le_refl _) hB) () _ _ _ h.W hg hr⟩
theorem RW.drewN {w W : World} {fn sl : Value} {pre : List Ln} (h : RW w fn sl pre W) (q : Nat) : RW w fn sl pre (W.drewN q) := ⟨h.D, h.A, below_drewT h.W q⟩
theorem rw_start (w : World) (fn sl : Value) (W : World) (hW : W = ((w.alloc (.cells #[fn, sl] 27)).alloc (.cells #[.slice none 0 0] 29)).alloc (.cells #[fn, sl] 27)) : RW w fn sl [] W := by
  subst hW
  refine ⟨⟨.slice none 0 0, ?_, RowG.nil _ _ _ _ _⟩, ?_, ((below_alloc w _).alloc (by simp) _).alloc (by simp <;> omega) _⟩
  · exact (boxed_at (Boxed.new _ _ _) (by simp)).alloc _
  · exact boxed2_at (Boxed2.new _ _ _ _) (by simp)
theorem RW.ag {w W : World} {fn sl : Value} {pre l : List Ln} (h : RW w fn sl pre W) (hs : SlG cL 3 w sl l) : AGL (w.heap.size + 1 + 1) sl l W := ⟨h.A.c1, hs.below h.W⟩
theorem RW.grow {w W w1 : World} {fn sl : Value} {pre : List Ln} {v v' : Value} (h : RW w fn sl pre W) (x : Ln)
    (hG : Grew cL 3 29 45 w.heap.size (w.heap.size + 1) W w1 v v' (pre ++ [x])) : RW w fn sl (pre ++ [x]) (w1.setCell ⟨w.heap.size + 1, 0, none⟩ v') :=
  ⟨⟨v', hG.b2, hG.row⟩, hG.oth _ _ _ h.A (by decide) (by omega), h.W.trans hG.below⟩
theorem row_end {w W : World} {v : Value} {l : List Ln} {D : Nat} {tm : Array Value} (h2 : tm[2]? = some v) (hrow : RowG cL 3 45 W w.heap.size v l) (hB : Below w.heap.size w W) (hK : W.heap[D]? = some (.deferred (some []))) (hD : w.heap.size ≤ D) :
    bodyPostM WF 8 Try.prog Try.f19 (fun e w' => ∃ v, e = .returned v ∧ RowG cL 3 45 w' w.heap.size v l ∧ Below w.heap.size w w') .ret { tmps := tm, defers := [{ target := .collected D, args := #[] }] } W := by
  have hg := grownBy_putObj' W D (.deferred none)
  have hr : ∀ r, some D = some r → w.heap.size ≤ r ∧ ∃ o : Obj, W.heap[r]? = some o ∧ o.isCells = false := fun r e => by cases e; exact ⟨hD, _, hK, rfl⟩
  refine ⟨by simp, .inl ⟨_, _, rfl, run_takeDeferred hK, ?_⟩⟩
  exact ⟨v, by simp [results, Try.results19, go_sem, h2], v, rfl, hrow.kept hg hr, (ownFrom_below (β := Unit) (Nat.le_refl _) (Nat.le_refl _)) () _ _ _ hB hg hr⟩
set_option maxHeartbeats 4000000 in
theorem row_any (kf : Nat) (sl : Value) (l : List Ln) (hl : l.length ≤ 1000) (w : World) (hsl : SlG cL 3 w sl l) :
    Calls Try.prog 19 #[.agg #[.func (.func kf) #[] #[], sl]] w fun e w' => ∃ v, e = .returned v ∧ RowG cL 3 45 w' w.heap.size v l ∧ Below w.heap.size w w' := by
  have HS0 := Lib.hid hsl
  obtain ⟨sa, sc, rfl⟩ := hsl.slice
  clear hsl
  have HA := Lib.hid (fun W => allL_any (.func (.func kf) #[] #[]) (.slice sa l.length sc) W)
  have HST := Lib.hid (rw_start w (.func (.func kf) #[] #[]) (.slice sa l.length sc) _ rfl)
  refine (callsIn_wide (n := 8)).1 (callsIn_of_wp_marks Try.func19 rfl trivial ?_ rfl)
  simp only [Try.ntmps19, List.size_toArray, List.length_cons, List.length_nil, Nat.reduceAdd, Nat.reduceSub, Array.replicate_succ, Array.replicate_zero, List.push_toArray, List.append_toArray, List.nil_append, List.cons_append]
  refine (wpIn_wide (n := 8)).2 ?_
  obtain ⟨Q, hQ⟩ : ∃ Q, Q = bodyPostM WF 8 Try.prog Try.f19 (fun e w' => ∃ v, e = .returned v ∧ RowG cL 3 45 w' w.heap.size v l ∧ Below w.heap.size w w') := ⟨_, rfl⟩
  rw [← hQ]
  have HQ := Lib.hid hQ
  clear hQ
  go_wp2_with (go_at_call 34; (with_reducible refine (HA.out _).mono ?_); rintro e w1 ⟨rfl, rfl⟩)
  refine (wpIn_wide (n := 8)).1 ?_
  refine rangeX (n := 8) (gf := 48) (lb := #[.pointer (some ⟨w.heap.size + 1 + 1, 0, none⟩)]) (by decide) rfl (fun args w => by kernel_rfl) (all1L_in 7 (by decide) _ _ l (by omega)) (fun _ => rfl)
    (.ret) (.ret) (.inl ⟨rfl, rfl⟩)
    (RW w (.func (.func kf) #[] #[]) (.slice sa l.length sc)) (fun _ _ => False) (RW.own _ _ _ _ (by simp <;> omega)) (fun _ _ _ _ h _ _ => h.elim) (fun pre W h => h.ag HS0.out) (fun pre W q h => h.drewN q) HST.out
    ?a1 (fun x W => W.alloc (.cells #[.string (str x.q), .int .u64 x.id] 34)) (fun x W => .inr ⟨_, rfl⟩) ?assign ?body ?done ?stop
  case stop => exact fun D pre W hD hX => hX.elim
  case assign =>
    intro l x W K hK
    unfold arL
    gi_wp2
    exact hK
  case body =>
    intro lr pre x W W2 hW2 hI hpre
    have HI := Lib.hid hI
    have hlen := hpre.length_le
    rw [List.length_append, List.length_singleton] at hlen
    obtain ⟨v, hv, hrow⟩ := hI.D
    obtain ⟨va, vn, vc, rfl⟩ := hrow.slice'
    have hD0 := hv.cell
    obtain ⟨k0, o0, hW2, hk0, hk1, _⟩ := hW2
    have hkb : Boxed2 W2 W.heap.size 34 (.string (str x.q)) (.int .u64 x.id) := by
      rw [hW2]
      exact (World.putObj_heap_other (by omega)).trans (Boxed2.new W _ _ _)
    have q0 := hkb.c0
    have q1 := hkb.c1
    have hDs : w.heap.size + 1 < W2.heap.size := hv.lt
    obtain ⟨v', w1, hrun, hG⟩ := grew (ty := 29) encL appE (by decide) (by decide) hv hrow (by omega) (by omega) (by omega) x _ rfl
    have HGG := Lib.hid (HI.out.grow x hG)
    have HKP := Lib.hid hG.keep
    obtain ⟨va', vn', vc', rfl⟩ := hG.row.slice'
    have d1 := hG.b1.cell
    have f1 := hG.b1.frozen
    simp only [cL] at hrun
    clear hG hI hrow hv hpre hkb hW2
    gi_wp2_with (gi_at_builtin; refine wpListIn_runA _ rfl _ _ _ _ rfl _ _ rfl rfl _ _ hrun ?_)
    exact .inl ⟨rfl, HKP.out.from _, HGG.out⟩
  case done =>
    intro D W hD hI hK
    obtain ⟨v, hv, hrow⟩ := hI.D
    have d0 := hv.cell
    obtain ⟨va, vn, vc, rfl⟩ := hrow.slice'
    have HRW := Lib.hid hrow
    have HKK := Lib.hid hK
    have HWW := Lib.hid hI.W
    have HDD : Hid (w.heap.size ≤ D) := by show _ ≤ _; simp at hD; omega
    clear hI hK hv hrow hD
    go_wp2
    rw [HQ.out]
    exact row_end rfl HRW.out HWW.out HKK.out HDD.out
end Go.Proofs.Ytpgaepilnbjhbaa
