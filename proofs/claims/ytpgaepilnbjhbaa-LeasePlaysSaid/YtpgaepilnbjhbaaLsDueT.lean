/- Due, and what is told of its rest's block. -/
import Derived.Test.YtpgaepilnbjhbaaLsTy
set_option maxRecDepth 100000
set_option maxHeartbeats 4000000
set_option linter.unusedVariables false
namespace Go.Proofs.Ytpgaepilnbjhbaa
open Go.RowKit
open Ls (Txt Ln Ms low Mono)
attribute [local go_sem] Oper.semAt_some store_fn store_nil
inductive DueOutT (fn : Value) (now : Nat) (l : List Ln) (w : World) (e : Ending) (w' : World) : Prop
  | mk (v sl : Value) (he : e = .returned (.tuple #[v, .agg #[fn, sl]])) (hr : RowG cM 2 34 w' w.heap.size v ((l.take (low (fun e => decide (e.t ≤ now)) l)).map keyL)) (hs : SlT 80 w' sl (l.drop (low (fun e => decide (e.t ≤ now)) l))) (hb : Below w.heap.size w w')
theorem dueEndT {w W w7 : World} {fn y0 y1 : Value} {va : Option Addr} {np vc : Nat} {now : Nat} {l : List Ln} {a2 : Option Addr} {n2 c2 : Nat} {D : Nat} {tm : Array Value}
    (h4 : tm[4]? = some (.slice va np vc)) (h5 : tm[5]? = some (.pointer (some ⟨w.heap.size + 1 + 1, 0, none⟩)))
    (hrow : RowG cM 2 34 W w.heap.size (.slice va np vc) ((l.take np).map keyL)) (hlow : low (fun e => decide (e.t ≤ now)) l = np)
    (hR : Boxed2 W (w.heap.size + 1 + 1) 27 y0 y1) (hB : Below w.heap.size w W) (hb7 : Below W.heap.size W w7) (hK : W.heap[D]? = some (.deferred (some []))) (hD : w.heap.size + 1 + 1 < D)
    (hs : ∀ W', Below w.heap.size w W' → SlT 80 W' (.slice a2 n2 c2) (l.drop np)) :
    bodyPostM WF 8 Try.prog Try.f10 (DueOutT fn now l w) .ret { tmps := tm, defers := [{ target := .collected D, args := #[] }] } ((w7.setCell ⟨w.heap.size + 1 + 1, 0, none⟩ fn).setCell ⟨w.heap.size + 1 + 1, 1, none⟩ (.slice a2 n2 c2)) := by
  have hR7 := hR.below hb7
  have hDl : D < W.heap.size := (Array.getElem?_eq_some_iff.1 hK).1
  have hrow7 := hrow.below hb7
  have hn7 : some (w.heap.size + 1 + 1) ≠ (Value.slice va np vc).ownBlock := hrow7.not_row hR7 (by decide)
  have hRs := hR7.set fn (.slice a2 n2 c2)
  have hrs : RowG cM 2 34 ((w7.setCell ⟨w.heap.size + 1 + 1, 0, none⟩ fn).setCell ⟨w.heap.size + 1 + 1, 1, none⟩ (.slice a2 n2 c2)) w.heap.size (.slice va np vc) ((l.take np).map keyL) :=
    hrow7.keep fun g hg => by
      have hne : g ≠ w.heap.size + 1 + 1 := fun e => hn7 (by rw [← e]; exact hg.symm)
      rw [Below.heap_setCell _ _ _ _ hne, Below.heap_setCell _ _ _ _ hne]
  have hBs := ((hB.trans (hb7.mono hB.size)).setCell (p := ⟨w.heap.size + 1 + 1, 0, none⟩) (show w.heap.size ≤ w.heap.size + 1 + 1 by omega) fn).setCell (p := ⟨w.heap.size + 1 + 1, 1, none⟩) (show w.heap.size ≤ w.heap.size + 1 + 1 by omega) (.slice a2 n2 c2)
  have hKs : ((w7.setCell ⟨w.heap.size + 1 + 1, 0, none⟩ fn).setCell ⟨w.heap.size + 1 + 1, 1, none⟩ (.slice a2 n2 c2)).heap[D]? = some (.deferred (some [])) := by
    have hne : D ≠ w.heap.size + 1 + 1 := by omega
    rw [Below.heap_setCell _ _ _ _ hne, Below.heap_setCell _ _ _ _ hne, hb7.block D hDl]; exact hK
  generalize ((w7.setCell ⟨w.heap.size + 1 + 1, 0, none⟩ fn).setCell ⟨w.heap.size + 1 + 1, 1, none⟩ (.slice a2 n2 c2)) = Wf at hRs hrs hBs hKs ⊢
  have hfin : ∀ o : Obj, (results Try.f10 tm).run Try.prog (Wf.putObj D o) = .ok (.tuple #[.slice va np vc, .agg #[fn, .slice a2 n2 c2]]) (Wf.putObj D o) ∧ DueOutT fn now l w (.returned (.tuple #[.slice va np vc, .agg #[fn, .slice a2 n2 c2]])) (Wf.putObj D o) := by
    intro o
    have hg := grownBy_putObj' Wf D o
    have hr : ∀ r, some D = some r → w.heap.size ≤ r ∧ ∃ o : Obj, Wf.heap[r]? = some o ∧ o.isCells = false := fun r e => by cases e; exact ⟨by omega, _, hKs, rfl⟩
    have hR9 := hRs.kept hg hr
    have hB9 : Below w.heap.size w (Wf.putObj D o) := (ownFrom_below (β := Unit) (Nat.le_refl _) (Nat.le_refl _)) () _ _ _ hBs hg hr
    have c0 := hR9.c0
    have c1 := hR9.c1
    refine ⟨by simp [results, Try.results10, go_sem, h4, h5, c0, c1], _, _, rfl, ?_, ?_, hB9⟩
    · rw [hlow]; exact hrs.kept hg hr
    · rw [hlow]; exact hs _ hB9
  refine ⟨by simp, .inl ⟨_, _, rfl, run_takeDeferred hKs, ?_⟩⟩
  obtain ⟨h1, h2⟩ := hfin (.deferred none)
  exact ⟨_, h1, h2⟩
set_option maxHeartbeats 8000000 in
theorem dueT_any (fn : Value) (hfn : IsFn fn) (sl : Value) (now : Nat) (l : List Ln) (hl : l.length ≤ 1000) (w : World) (hsl : SlT 80 w sl l) :
    Calls Try.prog 10 #[.agg #[fn, sl], .int .u64 now] w (DueOutT fn now l w) := by
  have HS0 := Lib.hid hsl
  obtain ⟨sa, sc, rfl⟩ := hsl.g.slice
  have HW := Lib.hid (fun a2 n2 c2 W => withL_any fn hfn (.slice sa l.length sc) (.slice a2 n2 c2) ⟨_, _, _, rfl⟩ ⟨_, _, _, rfl⟩ W)
  have HST := Lib.hid (diL_start w fn (.slice sa l.length sc) now _ rfl)
  have HA := Lib.hid (fun W => allL_any fn (.slice sa l.length sc) W)
  clear hsl
  rcases hfn with ⟨kf, rfl⟩ | rfl
  · skip
    refine (callsIn_wide (n := 8)).1 (callsIn_of_wp_marks Try.func10 rfl trivial ?_ rfl)
    simp only [Try.ntmps10, List.size_toArray, List.length_cons, List.length_nil, Nat.reduceAdd, Nat.reduceSub, Array.replicate_succ, Array.replicate_zero, List.push_toArray, List.append_toArray, List.nil_append, List.cons_append]
    refine (wpIn_wide (n := 8)).2 ?_
    obtain ⟨Q, hQ⟩ : ∃ Q, Q = bodyPostM WF 8 Try.prog Try.f10 (DueOutT (.func (.func kf) #[] #[]) now l w) := ⟨_, rfl⟩
    rw [← hQ]
    have HQ := Lib.hid hQ
    clear hQ
    go_wp2_with (go_at_call 34; (with_reducible refine (HA.out _).mono ?_); rintro e w1 ⟨rfl, rfl⟩)
    refine (wpIn_wide (n := 8)).1 ?_
    refine rangeX (n := 8) (gf := 48) (lb := #[.pointer (some ⟨w.heap.size + 1 + 1 + 1 + 1, 0, none⟩)]) (by decide) rfl (fun args w => by kernel_rfl) (all1L_in 7 (by decide) _ _ l (by omega)) (fun _ => rfl)
      (.exit 0) (.exit 0) (.inr ⟨0, rfl, rfl⟩)
      (DIL w (.func (.func kf) #[] #[]) (.slice sa l.length sc) now) (DXL w (.func (.func kf) #[] #[]) (.slice sa l.length sc) now l) (DIL.own _ _ _ _ _ (by simp <;> omega)) (DXL.own _ _ _ _ _ _ (by simp <;> omega)) (fun pre W h => h.ag HS0.out.g) (fun pre W q h => h.drewN q) HST.out
      (fun x W => { tmps := #[.agg #[(.func (.func kf) #[] #[]), .slice sa l.length sc], .int .u64 now, .pointer (some ⟨w.heap.size, 0, none⟩), .pointer (some ⟨w.heap.size + 1, 0, none⟩), .slice none 0 0, .pointer (some ⟨w.heap.size + 1 + 1, 0, none⟩), .pointer (some ⟨w.heap.size + 1 + 1 + 1, 0, none⟩), .pointer (some ⟨W.heap.size, 0, none⟩), .int .u64 x.t, .agg #[(.func (.func kf) #[] #[]), .slice sa l.length sc], .func (.func 48) #[] #[.pointer (some ⟨w.heap.size + 1 + 1 + 1 + 1, 0, none⟩)], .agg #[.string (str x.q), .int .u64 x.id], .int .u64 x.t, undef, undef, undef, undef, undef, undef, undef, undef, undef, undef, undef, undef, undef, undef, undef], defers := [] }) (fun x W => W.alloc (.cells #[.string (str x.q), .int .u64 x.id] 34)) (fun x W => .inr ⟨_, rfl⟩) ?assign ?body ?done ?stop
    case assign =>
      intro l x W K hK
      unfold arL
      gi_wp2
      exact hK
    case body =>
      intro lr pre x W W2 hW2 hI hpre
      have HI := Lib.hid hI
      have HPF := Lib.hid hpre
      have hlen := hpre.length_le
      rw [List.length_append, List.length_singleton] at hlen
      have cN := hI.N.cell
      obtain ⟨v, hv, hrow⟩ := hI.D
      obtain ⟨va, vn, vc, rfl⟩ := hrow.slice'
      have hD0 := hv.cell
      obtain ⟨k0, o0, hW2, hk0, hk1, _⟩ := hW2
      have hkb : Boxed2 W2 W.heap.size 34 (.string (str x.q)) (.int .u64 x.id) := by
        rw [hW2]
        exact (World.putObj_heap_other (by omega)).trans (Boxed2.new W _ _ _)
      have q0 := hkb.c0
      have q1 := hkb.c1
      by_cases hx : x.t ≤ now
      · have hxi : ¬ (now : Int) < (x.t : Int) := by omega
        have hxn : ¬ now < x.t := by omega
        have hDs : w.heap.size + 1 + 1 + 1 < W2.heap.size := hv.lt
        obtain ⟨v', w1, hrun, hG⟩ := grew (ty := 39) encM appK (by decide) (by decide) hv hrow (by omega) (by omega) (by rw [List.length_map]; omega) (keyL x) _ rfl
        have HGG := Lib.hid (HI.out.grow x hx hG)
        have HKP := Lib.hid hG.keep
        obtain ⟨va', vn', vc', rfl⟩ := hG.row.slice'
        have d1 := hG.b1.cell
        have f1 := hG.b1.frozen
        simp only [cM, keyL] at hrun
        clear hG hI hrow hv hpre hkb hW2
        gi_wp2_with (gi_at_builtin; refine wpListIn_runA _ rfl _ _ _ _ rfl _ _ rfl rfl _ _ hrun ?_)
        exact .inl ⟨rfl, HKP.out.from _, HGG.out⟩
      · have hxi : (now : Int) < (x.t : Int) := by omega
        have hxn : now < x.t := by omega
        clear hI hrow hv hpre hkb hW2
        gi_wp2
        exact .inr ⟨rfl, KeepsFrom.refl _ _, pre, x, rfl, HPF.out, by omega, HI.out⟩
    case done =>
      intro D W hD hI hK
      have hlow := due_lowL (l := l) (pre := l) (rest := []) (by simp) hI.le (fun e h => by cases h)
      have hP : l.length ≤ l.length := Nat.le_refl _
      obtain ⟨a2, hif⟩ : ∃ a2, (if sc = l.length then sa else Option.map (fun x => x.add (l.length * 3)) sa) = a2 := ⟨_, rfl⟩
      have HSF : Hid (∀ W, SlT 80 W (.slice sa l.length sc) l → SlT 80 W (.slice a2 (0) (sc - l.length)) (l.drop (l.length))) := fun W h => by
        have h1 := slFromL h.g hP
        unfold sliced at h1
        rw [hif] at h1
        refine ⟨by simpa using h1, fun k hk => h.ty k ?_⟩
        rw [← hif] at hk
        exact own_cut hk
      have HLOW := Lib.hid hlow
      have hT := hI.T
      have hR := hI.R
      obtain ⟨v, hv, hrow⟩ := hI.D
      obtain ⟨va, vc, hvv⟩ := hrow.slice
      rw [List.length_map] at hvv
      subst hvv
      have HT := Lib.hid hT
      have HR := Lib.hid hR
      have HD0 := Lib.hid hv.cell
      have HRW := Lib.hid hrow
      have HKK := Lib.hid hK
      have HWW := Lib.hid hI.W
      have HDD := Lib.hid hD
      have hpi : (l.length : Int) ≤ (l.length : Int) := by omega
      have hW0 : w.heap.size + 1 + 1 < W.heap.size := hR.lt
      clear hI hT hR hv hrow hK hlow hD
      go_wp2_with fail
      go_region_held3 (fun w' => w'.cell? ⟨w.heap.size, 0, none⟩ = some (.func (.func kf) #[] #[]) ∧ w'.cell? ⟨w.heap.size, 1, none⟩ = some (.slice sa l.length sc) ∧ w'.cell? ⟨w.heap.size + 1 + 1, 0, none⟩ = some (cv w' (w.heap.size + 1 + 1) 0) ∧ w'.cell? ⟨w.heap.size + 1 + 1, 1, none⟩ = some (cv w' (w.heap.size + 1 + 1) 1) ∧ w'.frozen? ⟨w.heap.size + 1 + 1, 0, none⟩ = false ∧ w'.frozen? ⟨w.heap.size + 1 + 1, 1, none⟩ = false ∧ w'.cell? ⟨w.heap.size + 1 + 1 + 1, 0, none⟩ = some (.slice va l.length vc) ∧ Below w.heap.size w w')
        ((first | with_reducible assumption | exact firstH (w1 := W.drew) HT.out HR.out HD0.out HWW.out.drew | (with_reducible exact stepH (Nat.le_refl _) ‹_› hb) | (exact stepH (Nat.le_refl _) (firstH (w1 := W.drew) HT.out HR.out HD0.out HWW.out.drew) hb) | exact stepHs (stepHs ‹_› (by omega) (by omega) (by omega)) (by omega) (by omega) (by omega)))
        (first
        | (go_at_call 32; refine (HW.out _ _ _ _).mono ?_; rintro e w7 ⟨rfl, hb⟩; have HB7 := Lib.hid hb; have HZ7 := Lib.hid (zH (firstH (w1 := W.drew) HT.out HR.out HD0.out HWW.out.drew) hb)))
      rename_i hS
      have HSS := Lib.hid hS
      clear hS
      go_wp2
      rw [HQ.out]
      exact dueEndT (y0 := .nilFunc) (y1 := .slice none 0 0) rfl rfl (by rw [List.take_length]; exact HRW.out) HLOW.out HR.out HWW.out ((Below.refl _ _).drew.trans HB7.out) HKK.out (by have := HDD.out; simp at this; omega) (fun W' hW' => HSF.out W' (HS0.out.below hW'))
    case stop =>
      rintro D pre W hD ⟨pre0, x, rfl, hpre, hx, hI⟩ hK
      obtain ⟨rest, hrest⟩ := hpre
      have hl0 : l = pre0 ++ (x :: rest) := by rw [← hrest]; simp
      have hlow := due_lowL (l := l) (pre := pre0) (rest := x :: rest) hl0 hI.le (fun e h => by simp at h; rw [← h]; exact hx)
      have hlenp : pre0.length ≤ l.length := by rw [hl0]; simp
      have HTK : Hid (l.take pre0.length = pre0) := by show _ = _; rw [hl0]; simp
      clear hl0 hrest hx
      have hP : pre0.length ≤ l.length := hlenp
      obtain ⟨a2, hif⟩ : ∃ a2, (if sc = pre0.length then sa else Option.map (fun x => x.add (pre0.length * 3)) sa) = a2 := ⟨_, rfl⟩
      have HSF : Hid (∀ W, SlT 80 W (.slice sa l.length sc) l → SlT 80 W (.slice a2 (l.length - pre0.length) (sc - pre0.length)) (l.drop (pre0.length))) := fun W h => by
        have h1 := slFromL h.g hP
        unfold sliced at h1
        rw [hif] at h1
        refine ⟨by simpa using h1, fun k hk => h.ty k ?_⟩
        rw [← hif] at hk
        exact own_cut hk
      have HLOW := Lib.hid hlow
      have hT := hI.T
      have hR := hI.R
      obtain ⟨v, hv, hrow⟩ := hI.D
      obtain ⟨va, vc, hvv⟩ := hrow.slice
      rw [List.length_map] at hvv
      subst hvv
      have HT := Lib.hid hT
      have HR := Lib.hid hR
      have HD0 := Lib.hid hv.cell
      have HRW := Lib.hid hrow
      have HKK := Lib.hid hK
      have HWW := Lib.hid hI.W
      have HDD := Lib.hid hD
      have hpi : (pre0.length : Int) ≤ (l.length : Int) := by omega
      have hW0 : w.heap.size + 1 + 1 < W.heap.size := hR.lt
      clear hI hT hR hv hrow hK hlow hD
      refine (wpIn_wide (n := 8)).2 ?_
      go_wp2_with fail
      go_region_held3 (fun w' => w'.cell? ⟨w.heap.size, 0, none⟩ = some (.func (.func kf) #[] #[]) ∧ w'.cell? ⟨w.heap.size, 1, none⟩ = some (.slice sa l.length sc) ∧ w'.cell? ⟨w.heap.size + 1 + 1, 0, none⟩ = some (cv w' (w.heap.size + 1 + 1) 0) ∧ w'.cell? ⟨w.heap.size + 1 + 1, 1, none⟩ = some (cv w' (w.heap.size + 1 + 1) 1) ∧ w'.frozen? ⟨w.heap.size + 1 + 1, 0, none⟩ = false ∧ w'.frozen? ⟨w.heap.size + 1 + 1, 1, none⟩ = false ∧ w'.cell? ⟨w.heap.size + 1 + 1 + 1, 0, none⟩ = some (.slice va pre0.length vc) ∧ Below w.heap.size w w')
        ((first | with_reducible assumption | exact firstH (w1 := W.drew) HT.out HR.out HD0.out HWW.out.drew | (with_reducible exact stepH (Nat.le_refl _) ‹_› hb) | (exact stepH (Nat.le_refl _) (firstH (w1 := W.drew) HT.out HR.out HD0.out HWW.out.drew) hb) | exact stepHs (stepHs ‹_› (by omega) (by omega) (by omega)) (by omega) (by omega) (by omega)))
        (first
        | (go_at_call 32; refine (HW.out _ _ _ _).mono ?_; rintro e w7 ⟨rfl, hb⟩; have HB7 := Lib.hid hb; have HZ7 := Lib.hid (zH (firstH (w1 := W.drew) HT.out HR.out HD0.out HWW.out.drew) hb)))
      rename_i hS
      have HSS := Lib.hid hS
      clear hS
      go_wp2
      rw [HQ.out]
      exact dueEndT (y0 := .nilFunc) (y1 := .slice none 0 0) rfl rfl (by rw [HTK.out]; exact HRW.out) HLOW.out HR.out HWW.out ((Below.refl _ _).drew.trans HB7.out) HKK.out (by have := HDD.out; simp at this; omega) (fun W' hW' => HSF.out W' (HS0.out.below hW'))
  · skip
    refine (callsIn_wide (n := 8)).1 (callsIn_of_wp_marks Try.func10 rfl trivial ?_ rfl)
    simp only [Try.ntmps10, List.size_toArray, List.length_cons, List.length_nil, Nat.reduceAdd, Nat.reduceSub, Array.replicate_succ, Array.replicate_zero, List.push_toArray, List.append_toArray, List.nil_append, List.cons_append]
    refine (wpIn_wide (n := 8)).2 ?_
    obtain ⟨Q, hQ⟩ : ∃ Q, Q = bodyPostM WF 8 Try.prog Try.f10 (DueOutT .nilFunc now l w) := ⟨_, rfl⟩
    rw [← hQ]
    have HQ := Lib.hid hQ
    clear hQ
    go_wp2_with (go_at_call 34; (with_reducible refine (HA.out _).mono ?_); rintro e w1 ⟨rfl, rfl⟩)
    refine (wpIn_wide (n := 8)).1 ?_
    refine rangeX (n := 8) (gf := 48) (lb := #[.pointer (some ⟨w.heap.size + 1 + 1 + 1 + 1, 0, none⟩)]) (by decide) rfl (fun args w => by kernel_rfl) (all1L_in 7 (by decide) _ _ l (by omega)) (fun _ => rfl)
      (.exit 0) (.exit 0) (.inr ⟨0, rfl, rfl⟩)
      (DIL w .nilFunc (.slice sa l.length sc) now) (DXL w .nilFunc (.slice sa l.length sc) now l) (DIL.own _ _ _ _ _ (by simp <;> omega)) (DXL.own _ _ _ _ _ _ (by simp <;> omega)) (fun pre W h => h.ag HS0.out.g) (fun pre W q h => h.drewN q) HST.out
      (fun x W => { tmps := #[.agg #[.nilFunc, .slice sa l.length sc], .int .u64 now, .pointer (some ⟨w.heap.size, 0, none⟩), .pointer (some ⟨w.heap.size + 1, 0, none⟩), .slice none 0 0, .pointer (some ⟨w.heap.size + 1 + 1, 0, none⟩), .pointer (some ⟨w.heap.size + 1 + 1 + 1, 0, none⟩), .pointer (some ⟨W.heap.size, 0, none⟩), .int .u64 x.t, .agg #[.nilFunc, .slice sa l.length sc], .func (.func 48) #[] #[.pointer (some ⟨w.heap.size + 1 + 1 + 1 + 1, 0, none⟩)], .agg #[.string (str x.q), .int .u64 x.id], .int .u64 x.t, undef, undef, undef, undef, undef, undef, undef, undef, undef, undef, undef, undef, undef, undef, undef], defers := [] }) (fun x W => W.alloc (.cells #[.string (str x.q), .int .u64 x.id] 34)) (fun x W => .inr ⟨_, rfl⟩) ?assign ?body ?done ?stop
    case assign =>
      intro l x W K hK
      unfold arL
      gi_wp2
      exact hK
    case body =>
      intro lr pre x W W2 hW2 hI hpre
      have HI := Lib.hid hI
      have HPF := Lib.hid hpre
      have hlen := hpre.length_le
      rw [List.length_append, List.length_singleton] at hlen
      have cN := hI.N.cell
      obtain ⟨v, hv, hrow⟩ := hI.D
      obtain ⟨va, vn, vc, rfl⟩ := hrow.slice'
      have hD0 := hv.cell
      obtain ⟨k0, o0, hW2, hk0, hk1, _⟩ := hW2
      have hkb : Boxed2 W2 W.heap.size 34 (.string (str x.q)) (.int .u64 x.id) := by
        rw [hW2]
        exact (World.putObj_heap_other (by omega)).trans (Boxed2.new W _ _ _)
      have q0 := hkb.c0
      have q1 := hkb.c1
      by_cases hx : x.t ≤ now
      · have hxi : ¬ (now : Int) < (x.t : Int) := by omega
        have hxn : ¬ now < x.t := by omega
        have hDs : w.heap.size + 1 + 1 + 1 < W2.heap.size := hv.lt
        obtain ⟨v', w1, hrun, hG⟩ := grew (ty := 39) encM appK (by decide) (by decide) hv hrow (by omega) (by omega) (by rw [List.length_map]; omega) (keyL x) _ rfl
        have HGG := Lib.hid (HI.out.grow x hx hG)
        have HKP := Lib.hid hG.keep
        obtain ⟨va', vn', vc', rfl⟩ := hG.row.slice'
        have d1 := hG.b1.cell
        have f1 := hG.b1.frozen
        simp only [cM, keyL] at hrun
        clear hG hI hrow hv hpre hkb hW2
        gi_wp2_with (gi_at_builtin; refine wpListIn_runA _ rfl _ _ _ _ rfl _ _ rfl rfl _ _ hrun ?_)
        exact .inl ⟨rfl, HKP.out.from _, HGG.out⟩
      · have hxi : (now : Int) < (x.t : Int) := by omega
        have hxn : now < x.t := by omega
        clear hI hrow hv hpre hkb hW2
        gi_wp2
        exact .inr ⟨rfl, KeepsFrom.refl _ _, pre, x, rfl, HPF.out, by omega, HI.out⟩
    case done =>
      intro D W hD hI hK
      have hlow := due_lowL (l := l) (pre := l) (rest := []) (by simp) hI.le (fun e h => by cases h)
      have hP : l.length ≤ l.length := Nat.le_refl _
      obtain ⟨a2, hif⟩ : ∃ a2, (if sc = l.length then sa else Option.map (fun x => x.add (l.length * 3)) sa) = a2 := ⟨_, rfl⟩
      have HSF : Hid (∀ W, SlT 80 W (.slice sa l.length sc) l → SlT 80 W (.slice a2 (0) (sc - l.length)) (l.drop (l.length))) := fun W h => by
        have h1 := slFromL h.g hP
        unfold sliced at h1
        rw [hif] at h1
        refine ⟨by simpa using h1, fun k hk => h.ty k ?_⟩
        rw [← hif] at hk
        exact own_cut hk
      have HLOW := Lib.hid hlow
      have hT := hI.T
      have hR := hI.R
      obtain ⟨v, hv, hrow⟩ := hI.D
      obtain ⟨va, vc, hvv⟩ := hrow.slice
      rw [List.length_map] at hvv
      subst hvv
      have HT := Lib.hid hT
      have HR := Lib.hid hR
      have HD0 := Lib.hid hv.cell
      have HRW := Lib.hid hrow
      have HKK := Lib.hid hK
      have HWW := Lib.hid hI.W
      have HDD := Lib.hid hD
      have hpi : (l.length : Int) ≤ (l.length : Int) := by omega
      have hW0 : w.heap.size + 1 + 1 < W.heap.size := hR.lt
      clear hI hT hR hv hrow hK hlow hD
      go_wp2_with fail
      go_region_held3 (fun w' => w'.cell? ⟨w.heap.size, 0, none⟩ = some .nilFunc ∧ w'.cell? ⟨w.heap.size, 1, none⟩ = some (.slice sa l.length sc) ∧ w'.cell? ⟨w.heap.size + 1 + 1, 0, none⟩ = some (cv w' (w.heap.size + 1 + 1) 0) ∧ w'.cell? ⟨w.heap.size + 1 + 1, 1, none⟩ = some (cv w' (w.heap.size + 1 + 1) 1) ∧ w'.frozen? ⟨w.heap.size + 1 + 1, 0, none⟩ = false ∧ w'.frozen? ⟨w.heap.size + 1 + 1, 1, none⟩ = false ∧ w'.cell? ⟨w.heap.size + 1 + 1 + 1, 0, none⟩ = some (.slice va l.length vc) ∧ Below w.heap.size w w')
        ((first | with_reducible assumption | exact firstH (w1 := W.drew) HT.out HR.out HD0.out HWW.out.drew | (with_reducible exact stepH (Nat.le_refl _) ‹_› hb) | (exact stepH (Nat.le_refl _) (firstH (w1 := W.drew) HT.out HR.out HD0.out HWW.out.drew) hb) | exact stepHs (stepHs ‹_› (by omega) (by omega) (by omega)) (by omega) (by omega) (by omega)))
        (first
        | (go_at_call 32; refine (HW.out _ _ _ _).mono ?_; rintro e w7 ⟨rfl, hb⟩; have HB7 := Lib.hid hb; have HZ7 := Lib.hid (zH (firstH (w1 := W.drew) HT.out HR.out HD0.out HWW.out.drew) hb)))
      rename_i hS
      have HSS := Lib.hid hS
      clear hS
      go_wp2
      rw [HQ.out]
      exact dueEndT (y0 := .nilFunc) (y1 := .slice none 0 0) rfl rfl (by rw [List.take_length]; exact HRW.out) HLOW.out HR.out HWW.out ((Below.refl _ _).drew.trans HB7.out) HKK.out (by have := HDD.out; simp at this; omega) (fun W' hW' => HSF.out W' (HS0.out.below hW'))
    case stop =>
      rintro D pre W hD ⟨pre0, x, rfl, hpre, hx, hI⟩ hK
      obtain ⟨rest, hrest⟩ := hpre
      have hl0 : l = pre0 ++ (x :: rest) := by rw [← hrest]; simp
      have hlow := due_lowL (l := l) (pre := pre0) (rest := x :: rest) hl0 hI.le (fun e h => by simp at h; rw [← h]; exact hx)
      have hlenp : pre0.length ≤ l.length := by rw [hl0]; simp
      have HTK : Hid (l.take pre0.length = pre0) := by show _ = _; rw [hl0]; simp
      clear hl0 hrest hx
      have hP : pre0.length ≤ l.length := hlenp
      obtain ⟨a2, hif⟩ : ∃ a2, (if sc = pre0.length then sa else Option.map (fun x => x.add (pre0.length * 3)) sa) = a2 := ⟨_, rfl⟩
      have HSF : Hid (∀ W, SlT 80 W (.slice sa l.length sc) l → SlT 80 W (.slice a2 (l.length - pre0.length) (sc - pre0.length)) (l.drop (pre0.length))) := fun W h => by
        have h1 := slFromL h.g hP
        unfold sliced at h1
        rw [hif] at h1
        refine ⟨by simpa using h1, fun k hk => h.ty k ?_⟩
        rw [← hif] at hk
        exact own_cut hk
      have HLOW := Lib.hid hlow
      have hT := hI.T
      have hR := hI.R
      obtain ⟨v, hv, hrow⟩ := hI.D
      obtain ⟨va, vc, hvv⟩ := hrow.slice
      rw [List.length_map] at hvv
      subst hvv
      have HT := Lib.hid hT
      have HR := Lib.hid hR
      have HD0 := Lib.hid hv.cell
      have HRW := Lib.hid hrow
      have HKK := Lib.hid hK
      have HWW := Lib.hid hI.W
      have HDD := Lib.hid hD
      have hpi : (pre0.length : Int) ≤ (l.length : Int) := by omega
      have hW0 : w.heap.size + 1 + 1 < W.heap.size := hR.lt
      clear hI hT hR hv hrow hK hlow hD
      refine (wpIn_wide (n := 8)).2 ?_
      go_wp2_with fail
      go_region_held3 (fun w' => w'.cell? ⟨w.heap.size, 0, none⟩ = some .nilFunc ∧ w'.cell? ⟨w.heap.size, 1, none⟩ = some (.slice sa l.length sc) ∧ w'.cell? ⟨w.heap.size + 1 + 1, 0, none⟩ = some (cv w' (w.heap.size + 1 + 1) 0) ∧ w'.cell? ⟨w.heap.size + 1 + 1, 1, none⟩ = some (cv w' (w.heap.size + 1 + 1) 1) ∧ w'.frozen? ⟨w.heap.size + 1 + 1, 0, none⟩ = false ∧ w'.frozen? ⟨w.heap.size + 1 + 1, 1, none⟩ = false ∧ w'.cell? ⟨w.heap.size + 1 + 1 + 1, 0, none⟩ = some (.slice va pre0.length vc) ∧ Below w.heap.size w w')
        ((first | with_reducible assumption | exact firstH (w1 := W.drew) HT.out HR.out HD0.out HWW.out.drew | (with_reducible exact stepH (Nat.le_refl _) ‹_› hb) | (exact stepH (Nat.le_refl _) (firstH (w1 := W.drew) HT.out HR.out HD0.out HWW.out.drew) hb) | exact stepHs (stepHs ‹_› (by omega) (by omega) (by omega)) (by omega) (by omega) (by omega)))
        (first
        | (go_at_call 32; refine (HW.out _ _ _ _).mono ?_; rintro e w7 ⟨rfl, hb⟩; have HB7 := Lib.hid hb; have HZ7 := Lib.hid (zH (firstH (w1 := W.drew) HT.out HR.out HD0.out HWW.out.drew) hb)))
      rename_i hS
      have HSS := Lib.hid hS
      clear hS
      go_wp2
      rw [HQ.out]
      exact dueEndT (y0 := .nilFunc) (y1 := .slice none 0 0) rfl rfl (by rw [HTK.out]; exact HRW.out) HLOW.out HR.out HWW.out ((Below.refl _ _).drew.trans HB7.out) HKK.out (by have := HDD.out; simp at this; omega) (fun W' hW' => HSF.out W' (HS0.out.below hW'))
end Go.Proofs.Ytpgaepilnbjhbaa
