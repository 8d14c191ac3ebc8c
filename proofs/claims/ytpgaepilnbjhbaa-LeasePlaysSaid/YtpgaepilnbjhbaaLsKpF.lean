/- Keep: those alone that are so. -/
import Derived.Test.YtpgaepilnbjhbaaLsSays
import Derived.Test.YtpgaepilnbjhbaaLsDueL
import Derived.Test.YtpgaepilnbjhbaaLsLendL
set_option maxRecDepth 100000
set_option maxHeartbeats 4000000
set_option linter.unusedVariables false
namespace Go.Proofs.Ytpgaepilnbjhbaa
open Go.RowKit
open Ls (Txt Ln Ms low Mono)
attribute [local go_sem] Oper.semAt_some store_fn store_nil
/-- What a round keeps within Keep. -/
structure KI (w : World) (fn sl so : Value) (p : Nat → Bool) (pre : List Ln) (W : World) : Prop where
  T : Boxed2 W w.heap.size 27 fn sl
  N : Boxed W (w.heap.size + 1) 47 so
  R : Boxed2 W (w.heap.size + 1 + 1) 27 .nilFunc (.slice none 0 0)
  D : ∃ v, Boxed W (w.heap.size + 1 + 1 + 1) 25 v ∧ RowG cL 3 80 W w.heap.size v (pre.filter fun e => p e.id)
  A : Boxed2 W (w.heap.size + 1 + 1 + 1 + 1) 27 fn sl
  W : Below w.heap.size w W
theorem KI.own (w : World) (fn sl so : Value) (p : Nat → Bool) (B : Nat) (hB : w.heap.size ≤ B) : OwnFrom B (KI w fn sl so p) := fun pre _ _ _ h hg hr => by
  obtain ⟨v, h1, h2⟩ := h.D
  exact ⟨h.T.kept hg hr, boxed_kept h.N hg hr, h.R.kept hg hr, ⟨v, boxed_kept h1 hg hr, h2.kept hg hr⟩, h.A.kept hg hr, (ownFrom_below (β := Unit) (Nat.le_refl _) hB) () _ _ _ h.W hg hr⟩
theorem KI.drewN {w W : World} {fn sl so : Value} {p : Nat → Bool} {pre : List Ln} (h : KI w fn sl so p pre W) (q : Nat) : KI w fn sl so p pre (W.drewN q) := ⟨h.T, h.N, h.R, h.D, h.A, below_drewT h.W q⟩
theorem ki_start (w : World) (fn sl so : Value) (p : Nat → Bool) (W : World) (hW : W = ((((w.alloc (.cells #[fn, sl] 27)).alloc (.cells #[so] 47)).alloc (.cells #[.nilFunc, .slice none 0 0] 27)).alloc (.cells #[.slice none 0 0] 25)).alloc (.cells #[fn, sl] 27)) : KI w fn sl so p [] W := by
  subst hW
  refine ⟨((((Boxed2.new w _ _ _).alloc _).alloc _).alloc _).alloc _, ?_, ?_, ⟨.slice none 0 0, ?_, RowG.nil _ _ _ _ _⟩, ?_, (((((below_alloc w _).alloc (by simp) _).alloc (by simp <;> omega) _).alloc (by simp <;> omega) _).alloc (by simp <;> omega) _)⟩
  · exact (((boxed_at (Boxed.new _ _ _) (by simp)).alloc _).alloc _).alloc _
  · exact ((boxed2_at (Boxed2.new _ _ _ _) (by simp)).alloc _).alloc _
  · exact (boxed_at (Boxed.new _ _ _) (by simp)).alloc _
  · exact boxed2_at (Boxed2.new _ _ _ _) (by simp)
theorem KI.ag {w W : World} {fn sl so : Value} {p : Nat → Bool} {pre l : List Ln} (h : KI w fn sl so p pre W) (hs : SlG cL 3 w sl l) : AGL (w.heap.size + 1 + 1 + 1 + 1) sl l W := ⟨h.A.c1, hs.below h.W⟩
theorem filter_snoc (p : Nat → Bool) (pre : List Ln) (x : Ln) (b : Bool) (h : p x.id = b) : (pre ++ [x]).filter (fun e => p e.id) = if b then (pre.filter fun e => p e.id) ++ [x] else pre.filter fun e => p e.id := by
  subst h
  rw [List.filter_append]
  cases h : p x.id <;> simp [h]
theorem KI.below {w W W' : World} {fn sl so : Value} {p : Nat → Bool} {pre : List Ln} (h : KI w fn sl so p pre W) (hb : Below W.heap.size W W') : KI w fn sl so p pre W' := by
  obtain ⟨v, h1, h2⟩ := h.D
  exact ⟨h.T.below hb, boxed_below h.N hb, h.R.below hb, ⟨v, boxed_below h1 hb, h2.below hb⟩, h.A.below hb, on h.W (Nat.le_refl _) hb⟩
theorem KI.skip {w W : World} {fn sl so : Value} {p : Nat → Bool} {pre : List Ln} (h : KI w fn sl so p pre W) (x : Ln) (hx : p x.id = false) : KI w fn sl so p (pre ++ [x]) W := by
  obtain ⟨v, h1, h2⟩ := h.D
  exact ⟨h.T, h.N, h.R, ⟨v, h1, by rw [filter_snoc p pre x _ hx]; exact h2⟩, h.A, h.W⟩
theorem KI.grow {w W w1 : World} {fn sl so : Value} {p : Nat → Bool} {pre : List Ln} {v v' : Value} (h : KI w fn sl so p pre W) (x : Ln) (hx : p x.id = true)
    (hG : Grew cL 3 25 80 w.heap.size (w.heap.size + 1 + 1 + 1) W w1 v v' ((pre.filter fun e => p e.id) ++ [x])) : KI w fn sl so p (pre ++ [x]) (w1.setCell ⟨w.heap.size + 1 + 1 + 1, 0, none⟩ v') := by
  refine ⟨hG.oth _ _ _ h.T (by decide) (by omega), hG.oth _ _ _ h.N (by decide) (by omega), hG.oth _ _ _ h.R (by decide) (by omega), ⟨v', hG.b2, by rw [filter_snoc p pre x _ hx]; exact hG.row⟩, hG.oth _ _ _ h.A (by decide) (by omega), h.W.trans hG.below⟩
theorem others_below {W W' : World} (h : Below W.heap.size W W') : KeepsOthers W W' := ⟨h.size, fun k o ho _ => (h.block k (Array.getElem?_eq_some_iff.1 ho).1).trans ho⟩
theorem keepEnd {w W w7 : World} {fn y0 y1 : Value} {va : Option Addr} {np vc : Nat} {l : List Ln} {D : Nat} {tm : Array Value}
    (h4 : tm[4]? = some (.pointer (some ⟨w.heap.size + 1 + 1, 0, none⟩))) (hrow : RowG cL 3 80 W w.heap.size (.slice va np vc) l)
    (hR : Boxed2 W (w.heap.size + 1 + 1) 27 y0 y1) (hB : Below w.heap.size w W) (hb7 : Below W.heap.size W w7) (hK : W.heap[D]? = some (.deferred (some []))) (hD : w.heap.size + 1 + 1 < D) :
    bodyPostM WF 8 Try.prog Try.f12 (LendOutL fn l w) .ret { tmps := tm, defers := [{ target := .collected D, args := #[] }] } ((w7.setCell ⟨w.heap.size + 1 + 1, 0, none⟩ fn).setCell ⟨w.heap.size + 1 + 1, 1, none⟩ (.slice va np vc)) := by
  have hR7 := hR.below hb7
  have hDl : D < W.heap.size := (Array.getElem?_eq_some_iff.1 hK).1
  have hrow7 := hrow.below hb7
  have hn7 : some (w.heap.size + 1 + 1) ≠ (Value.slice va np vc).ownBlock := hrow7.not_row hR7 (by decide)
  have hRs := hR7.set fn (.slice va np vc)
  have hrs : RowG cL 3 80 ((w7.setCell ⟨w.heap.size + 1 + 1, 0, none⟩ fn).setCell ⟨w.heap.size + 1 + 1, 1, none⟩ (.slice va np vc)) w.heap.size (.slice va np vc) l :=
    hrow7.keep fun g hg => by
      have hne : g ≠ w.heap.size + 1 + 1 := fun e => hn7 (by rw [← e]; exact hg.symm)
      rw [Below.heap_setCell _ _ _ _ hne, Below.heap_setCell _ _ _ _ hne]
  have hBs := ((hB.trans (hb7.mono hB.size)).setCell (p := ⟨w.heap.size + 1 + 1, 0, none⟩) (show w.heap.size ≤ w.heap.size + 1 + 1 by omega) fn).setCell (p := ⟨w.heap.size + 1 + 1, 1, none⟩) (show w.heap.size ≤ w.heap.size + 1 + 1 by omega) (.slice va np vc)
  have hKs : ((w7.setCell ⟨w.heap.size + 1 + 1, 0, none⟩ fn).setCell ⟨w.heap.size + 1 + 1, 1, none⟩ (.slice va np vc)).heap[D]? = some (.deferred (some [])) := by
    have hne : D ≠ w.heap.size + 1 + 1 := by omega
    rw [Below.heap_setCell _ _ _ _ hne, Below.heap_setCell _ _ _ _ hne, hb7.block D hDl]; exact hK
  generalize ((w7.setCell ⟨w.heap.size + 1 + 1, 0, none⟩ fn).setCell ⟨w.heap.size + 1 + 1, 1, none⟩ (.slice va np vc)) = Wf at hRs hrs hBs hKs ⊢
  have hfin : ∀ o : Obj, (results Try.f12 tm).run Try.prog (Wf.putObj D o) = .ok (.agg #[fn, .slice va np vc]) (Wf.putObj D o) ∧ LendOutL fn l w (.returned (.agg #[fn, .slice va np vc])) (Wf.putObj D o) := by
    intro o
    have hg := grownBy_putObj' Wf D o
    have hr : ∀ r, some D = some r → w.heap.size ≤ r ∧ ∃ o : Obj, Wf.heap[r]? = some o ∧ o.isCells = false := fun r e => by cases e; exact ⟨by omega, _, hKs, rfl⟩
    have hR9 := hRs.kept hg hr
    have hB9 : Below w.heap.size w (Wf.putObj D o) := (ownFrom_below (β := Unit) (Nat.le_refl _) (Nat.le_refl _)) () _ _ _ hBs hg hr
    have c0 := hR9.c0
    have c1 := hR9.c1
    exact ⟨by simp [results, Try.results12, go_sem, h4, c0, c1], _, rfl, hrs.kept hg hr, hB9⟩
  refine ⟨by simp, .inl ⟨_, _, rfl, run_takeDeferred hKs, ?_⟩⟩
  obtain ⟨h1, h2⟩ := hfin (.deferred none)
  exact ⟨_, h1, h2⟩
set_option maxHeartbeats 1000000 in
theorem keepF_any (kf : Nat) (sl : Value) (ab n : Nat) (l : List Ln) (hl : l.length ≤ 1000) (w : World) (hsl : SlG cL 3 w sl l) (hc : w.cell? ⟨ab, 3, none⟩ = some (.int .u64 n)) :
    Calls Try.prog 12 #[.agg #[.func (.func kf) #[] #[], sl], (.func (.func 13) #[] #[.pointer (some ⟨ab, 0, none⟩)])] w (LendOutL (.func (.func kf) #[] #[]) (l.filter fun e => (fun i => decide (i ≠ n)) e.id) w) := by
  have HS0 := Lib.hid hsl
  obtain ⟨sa, sc, rfl⟩ := hsl.slice
  obtain ⟨p, hp⟩ : ∃ p, p = (fun i => decide (i ≠ n)) := ⟨_, rfl⟩
  have HSY : Hid (∀ (q : Txt) (id : Nat) (W : World), Below w.heap.size w W → ∀ b, p id = b → Calls Try.prog 35 #[(.func (.func 13) #[] #[.pointer (some ⟨ab, 0, none⟩)]), .agg #[.string (str q), .int .u64 id]] W fun e w' => e = .returned (.bool b) ∧ Below W.heap.size W w') := fun q id W hW b hb => by
    subst hb; rw [hp]; exact says_any (So.fn ab n) q id W ((So.fn ab n).below rfl hW hc)
  rw [← hp]
  clear hp hc
  have HW := Lib.hid (fun a2 n2 c2 W => withL_any (.func (.func kf) #[] #[]) (.inl ⟨kf, rfl⟩) (.slice sa l.length sc) (.slice a2 n2 c2) ⟨_, _, _, rfl⟩ ⟨_, _, _, rfl⟩ W)
  have HST := Lib.hid (ki_start w (.func (.func kf) #[] #[]) (.slice sa l.length sc) (.func (.func 13) #[] #[.pointer (some ⟨ab, 0, none⟩)]) p _ rfl)
  have HA := Lib.hid (fun W => allL_any (.func (.func kf) #[] #[]) (.slice sa l.length sc) W)
  clear hsl
  refine (callsIn_wide (n := 8)).1 (callsIn_of_wp_marks Try.func12 rfl trivial ?_ rfl)
  simp only [Try.ntmps12, List.size_toArray, List.length_cons, List.length_nil, Nat.reduceAdd, Nat.reduceSub, Array.replicate_succ, Array.replicate_zero, List.push_toArray, List.append_toArray, List.nil_append, List.cons_append]
  refine (wpIn_wide (n := 8)).2 ?_
  obtain ⟨Q, hQ⟩ : ∃ Q, Q = bodyPostM WF 8 Try.prog Try.f12 (LendOutL (.func (.func kf) #[] #[]) (l.filter fun e => p e.id) w) := ⟨_, rfl⟩
  rw [← hQ]
  have HQ := Lib.hid hQ
  clear hQ
  go_wp2_with (go_at_call 34; (with_reducible refine (HA.out _).mono ?_); rintro e w1 ⟨rfl, rfl⟩)
  refine (wpIn_wide (n := 8)).1 ?_
  refine rangeX (n := 8) (gf := 48) (lb := #[.pointer (some ⟨w.heap.size + 1 + 1 + 1 + 1, 0, none⟩)]) (by decide) rfl (fun args w => by kernel_rfl) (all1L_in 7 (by decide) _ _ l (by omega)) (fun _ => rfl)
    (.ret) (.ret) (.inl ⟨rfl, rfl⟩)
    (KI w (.func (.func kf) #[] #[]) (.slice sa l.length sc) (.func (.func 13) #[] #[.pointer (some ⟨ab, 0, none⟩)]) p) (fun _ _ => False) (KI.own _ _ _ _ _ _ (by simp <;> omega)) (fun _ _ _ _ h _ _ => h.elim) (fun pre W h => h.ag HS0.out) (fun pre W q h => h.drewN q) HST.out
    (fun x W => { tmps := #[.agg #[.func (.func kf) #[] #[], .slice sa l.length sc], (.func (.func 13) #[] #[.pointer (some ⟨ab, 0, none⟩)]), .pointer (some ⟨w.heap.size, 0, none⟩), .pointer (some ⟨w.heap.size + 1, 0, none⟩), .pointer (some ⟨w.heap.size + 1 + 1, 0, none⟩), .pointer (some ⟨w.heap.size + 1 + 1 + 1, 0, none⟩), .pointer (some ⟨W.heap.size, 0, none⟩), .int .u64 x.t, .agg #[.func (.func kf) #[] #[], .slice sa l.length sc], .func (.func 48) #[] #[.pointer (some ⟨w.heap.size + 1 + 1 + 1 + 1, 0, none⟩)], .agg #[.string (str x.q), .int .u64 x.id], .int .u64 x.t, undef, undef, undef, undef, undef, undef, undef, undef, undef, undef, undef, undef], defers := [] }) (fun x W => W.alloc (.cells #[.string (str x.q), .int .u64 x.id] 34)) (fun x W => .inr ⟨_, rfl⟩) ?assign ?body ?done ?stop
  case stop => exact fun D pre W hD hX => hX.elim
  case assign =>
    intro l x W K hK
    unfold arL
    gi_wp2
    exact hK
  case body =>
    intro lr pre x W W2 hW2 hI hpre
    have HI := Lib.hid hI
    have hlen := hpre.length_le
    rw [List.length_append, List.length_singleton] at hlen
    obtain ⟨k0, o0, hW2, hk0, hk1, _⟩ := hW2
    have hkb : Boxed2 W2 W.heap.size 34 (.string (str x.q)) (.int .u64 x.id) := by
      rw [hW2]
      exact (World.putObj_heap_other (by omega)).trans (Boxed2.new W _ _ _)
    have q0 := hkb.c0
    have q1 := hkb.c1
    have n0 := hI.N.cell
    have HKB := Lib.hid hkb
    have HLN : Hid (pre.length ≤ 1000) := by show _ ≤ _; omega
    have HSI := Lib.hid (HSY.out x.q x.id W2 hI.W)
    clear hI hpre hkb hW2 hlen hk0 hk1
    by_cases hx : p x.id = true
    · have HX := Lib.hid hx
      have HSB := Lib.hid (HSI.out true hx)
      clear hx
      gi_wp2_with (first
        | (gi_at_builtin; refine wpListIn_runA _ rfl _ _ _ _ rfl _ _ rfl rfl _ _ hrun ?_)
        | (refine ⟨trivial, ?_⟩; gi_at_call 35; refine (CallsIn.inRound lr (callsIn_wide.2 HSB.out)).mono ?_; rintro e w3 ⟨rfl, hb3⟩; have hI3 := HI.out.below hb3; have hkb3 := HKB.out.below hb3; have q0' := hkb3.c0; have q1' := hkb3.c1; obtain ⟨v, hv, hrow⟩ := hI3.D; obtain ⟨va, vn, vc, rfl⟩ := hrow.slice'; have hD0 := hv.cell; obtain ⟨v', w1, hrun, hG⟩ := grew (ty := 25) encL appL (by decide) (by decide) hv hrow (hI3.W.size) (by omega) (Nat.le_trans (List.length_filter_le _ _) (by have := HLN.out; omega)) x _ rfl; have HGG := Lib.hid (hI3.grow x HX.out hG); have HKP := Lib.hid ((others_below hb3).trans hG.keep); obtain ⟨va', vn', vc', rfl⟩ := hG.row.slice'; have d1 := hG.b1.cell; have f1 := hG.b1.frozen; simp only [cL] at hrun; clear hG hI3 hrow hv hkb3 hb3))
      exact .inl ⟨rfl, HKP.out.from _, HGG.out⟩
    · have hx' : p x.id = false := by simpa using hx
      have HX := Lib.hid hx'
      have HSB := Lib.hid (HSI.out false hx')
      clear hx hx'
      gi_wp2_with (refine ⟨trivial, ?_⟩; gi_at_call 35; refine (CallsIn.inRound lr (callsIn_wide.2 HSB.out)).mono ?_; rintro e w3 ⟨rfl, hb3⟩; have HB3 := Lib.hid hb3; clear hb3)
      exact .inl ⟨rfl, (others_below HB3.out).from _, (HI.out.below HB3.out).skip x HX.out⟩
  case done =>
    intro D W hD hI hK
    have hT := hI.T
    have hR := hI.R
    obtain ⟨v, hv, hrow⟩ := hI.D
    obtain ⟨va, vn, vc, rfl⟩ := hrow.slice'
    have HT := Lib.hid hT
    have HR := Lib.hid hR
    have HD0 := Lib.hid hv.cell
    have HRW := Lib.hid hrow
    have HKK := Lib.hid hK
    have HWW := Lib.hid hI.W
    have HDD := Lib.hid hD
    have hW0 : w.heap.size + 1 + 1 < W.heap.size := hR.lt
    have c0 := hT.c0
    have c1 := hT.c1
    have c2 := hv.cell
    clear hI hT hR hv hrow hK hD
    go_wp2_with (go_at_call 32; refine (HW.out _ _ _ _).mono ?_; rintro e w7 ⟨rfl, hb⟩; have HB7 := Lib.hid hb; have hr7 := HR.out.below hb; have r0 := hr7.c0; have r1 := hr7.c1; have f0 := hr7.f0; have f1 := hr7.f1; clear hb hr7)
    rw [HQ.out]
    exact keepEnd (y0 := .nilFunc) (y1 := .slice none 0 0) rfl HRW.out HR.out HWW.out HB7.out HKK.out (by have := HDD.out; simp at this; omega)
end Go.Proofs.Ytpgaepilnbjhbaa
