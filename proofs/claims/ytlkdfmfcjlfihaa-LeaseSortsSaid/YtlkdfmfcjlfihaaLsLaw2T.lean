/- LeaseSorts: the law's walk. -/
import Derived.Test.YtlkdfmfcjlfihaaLsLaw2b
import Derived.Test.YtlkdfmfcjlfihaaLsSlW
set_option maxRecDepth 100000
set_option maxHeartbeats 4000000
set_option linter.unusedVariables false
namespace Go.Proofs.Ytlkdfmfcjlfihaa
open Go.RowKit
open Ls (Txt Ln Ms low ltM sameM tl)
attribute [local go_sem] Oper.semAt_some store_fn store_nil
set_option maxHeartbeats 8000000 in
set_option maxRecDepth 100000 in
theorem sorts_walkT (v0 v1 : Value) (l : List Txt) (ts : List Nat) (now : Nat) (w : World) (h0 : SlW cX 1 w v0 l) (h1 : SlW cU 1 w v1 ts) (hk : ∀ x ∈ l, x.length ≤ maxLen) :
    Calls Try.prog 4 #[v0, v1, .int .u64 now, .bool true] w fun e W' => e = .returned (.bool true) ∧ Below w.heap.size w W' := by
  have HV0 := Lib.hid h0
  have HV1 := Lib.hid h1
  have HKL := Lib.hid hk
  obtain ⟨a0, c0, rfl⟩ := h0.slice
  obtain ⟨a1, c1, rfl⟩ := h1.slice
  have HA := Lib.hid (fun w => awake_any w)
  obtain ⟨w0, hw0⟩ : ∃ w0, w0 = ((w.alloc (.cells #[.int .u64 now] 32)).alloc (.cells #[.bool true] 4)).alloc (.cells #[.bool false] 4) := ⟨_, rfl⟩
  have B0 : Hid (Below w.heap.size w w0) := by show Below _ _ _; rw [hw0]; exact ((below_alloc _ _).alloc (by simp) _).alloc (by simp <;> omega) _
  have X0 : Hid (Boxed w0 w.heap.size 32 (.int .u64 now)) := by show Boxed _ _ _ _; rw [hw0]; exact ((Boxed.new _ _ _).alloc _).alloc _
  have X1 : Hid (Boxed w0 (w.heap.size + 1) 4 (.bool true)) := by show Boxed _ _ _ _; rw [hw0]; exact (boxed_at (Boxed.new _ _ _) (by simp)).alloc _
  have X2 : Hid (Boxed w0 (w.heap.size + 1 + 1) 4 (.bool false)) := by show Boxed _ _ _ _; rw [hw0]; exact boxed_at (Boxed.new _ _ _) (by simp)
  clear h0 h1 hk
  by_cases hl : (50 : Int) < (l.length : Int)
  · refine (callsIn_wide (n := 8)).1 (callsIn_of_wp_marks Try.func4 rfl trivial ?_ rfl)
    simp only [Try.ntmps4, List.size_toArray, List.length_cons, List.length_nil, Nat.reduceAdd, Nat.reduceSub, Array.replicate_succ, Array.replicate_zero, List.push_toArray, List.append_toArray, List.nil_append, List.cons_append]
    refine (wpIn_wide (n := 8)).2 ?_
    obtain ⟨Q, hQ⟩ : ∃ Q, Q = bodyPostM WF 8 Try.prog Try.f4 (fun e W' => e = .returned (.bool true) ∧ Below w.heap.size w W') := ⟨_, rfl⟩
    rw [← hQ]
    have HQ := Lib.hid hQ
    clear hQ
    go_wp2_with (go_at_call 6; (with_reducible refine (HA.out _).mono ?_); rintro e w1 ⟨rfl, hb1⟩; have hb1' : Below w0.heap.size w0 w1 := (by rw [hw0]; exact hb1); have Z0 := Lib.hid (boxed_below X0.out hb1'); have Z1 := Lib.hid (boxed_below X1.out hb1'); have Z2 := Lib.hid (boxed_below X2.out hb1'); have BB1 := Lib.hid (on B0.out (Nat.le_refl _) hb1'); have z0 := Z0.out.cell; have z1 := Z1.out.cell; have z2 := Z2.out.cell; have z3 := Z2.out.frozen; clear hb1 hb1')
    rw [HQ.out]
    have r3 := (Z2.out.set (.bool true)).cell
    exact ⟨.bool true, by simp [results, Try.results4, go_sem, r3], rfl, BB1.out.setCell (p := ⟨w.heap.size + 1 + 1, 0, none⟩) (by show _ ≤ w.heap.size + 1 + 1; omega) _⟩
  by_cases ht : (50 : Int) < (ts.length : Int)
  · refine (callsIn_wide (n := 8)).1 (callsIn_of_wp_marks Try.func4 rfl trivial ?_ rfl)
    simp only [Try.ntmps4, List.size_toArray, List.length_cons, List.length_nil, Nat.reduceAdd, Nat.reduceSub, Array.replicate_succ, Array.replicate_zero, List.push_toArray, List.append_toArray, List.nil_append, List.cons_append]
    refine (wpIn_wide (n := 8)).2 ?_
    obtain ⟨Q, hQ⟩ : ∃ Q, Q = bodyPostM WF 8 Try.prog Try.f4 (fun e W' => e = .returned (.bool true) ∧ Below w.heap.size w W') := ⟨_, rfl⟩
    rw [← hQ]
    have HQ := Lib.hid hQ
    clear hQ
    go_wp2_with (go_at_call 6; (with_reducible refine (HA.out _).mono ?_); rintro e w1 ⟨rfl, hb1⟩; have hb1' : Below w0.heap.size w0 w1 := (by rw [hw0]; exact hb1); have Z0 := Lib.hid (boxed_below X0.out hb1'); have Z1 := Lib.hid (boxed_below X1.out hb1'); have Z2 := Lib.hid (boxed_below X2.out hb1'); have BB1 := Lib.hid (on B0.out (Nat.le_refl _) hb1'); have z0 := Z0.out.cell; have z1 := Z1.out.cell; have z2 := Z2.out.cell; have z3 := Z2.out.frozen; clear hb1 hb1')
    rw [HQ.out]
    have r3 := (Z2.out.set (.bool true)).cell
    exact ⟨.bool true, by simp [results, Try.results4, go_sem, r3], rfl, BB1.out.setCell (p := ⟨w.heap.size + 1 + 1, 0, none⟩) (by show _ ≤ w.heap.size + 1 + 1; omega) _⟩
  have HNW : Hid (∀ W, Calls Try.prog 23 #[(.func (.func 21) #[] #[])] W fun e w' => e = .returned (.agg #[(.func (.func 21) #[] #[]), .slice none 0 0]) ∧ Below W.heap.size W w') := fun W => newM_any true W
  have d1 : decide ((50 : Int) < (l.length : Int)) = false := decide_eq_false hl
  have d2 : decide ((50 : Int) < (ts.length : Int)) = false := decide_eq_false ht
  have hmm := @run_makeMap Try.prog
  have hl' : l.length ≤ 50 := by omega
  have ht' : ts.length ≤ 50 := by omega
  have HLD : Hid (∀ sl L, L.length ≤ 900 → Ls.Uni sameM L → Ls.Srt (ltM true) L → ∀ (x : Ms) (W : World), SlG cM 2 W sl L → Calls Try.prog 24 #[.agg #[(.func (.func 21) #[] #[]), sl], .string (str x.s), .int .u64 x.t] W (LendOutM (.func (.func 21) #[] #[]) (Ls.lend (ltM true) sameM x L) W)) := fun sl L h1 h2 h3 x W h4 => lendB_any true sl L h1 h2 h3 x W h4
  refine (callsIn_wide (n := 8)).1 (callsIn_of_wp_marks Try.func4 rfl trivial ?_ rfl)
  simp only [Try.ntmps4, List.size_toArray, List.length_cons, List.length_nil, Nat.reduceAdd, Nat.reduceSub, Array.replicate_succ, Array.replicate_zero, List.push_toArray, List.append_toArray, List.nil_append, List.cons_append]
  refine (wpIn_wide (n := 8)).2 ?_
  obtain ⟨Q, hQ⟩ : ∃ Q, Q = bodyPostM WF 8 Try.prog Try.f4 (fun e W' => e = .returned (.bool true) ∧ Below w.heap.size w W') := ⟨_, rfl⟩
  rw [← hQ]
  have HQ := Lib.hid hQ
  clear hQ
  go_wp2_with (first | (go_at_call 23; refine (HNW.out _).mono ?_; rintro e w2 ⟨rfl, hb2⟩; have HSJ := Lib.hid (sj_start (now := now) (b := true) (boxed_below Z0.out hb2) (boxed_below Z1.out hb2) (boxed_below Z2.out hb2) (on BB1.out (Nat.le_refl _) hb2) rfl); clear hb2) | (go_at_call 6; (with_reducible refine (HA.out _).mono ?_); rintro e w1 ⟨rfl, hb1⟩; have hb1' : Below w0.heap.size w0 w1 := (by rw [hw0]; exact hb1); have Z0 := Lib.hid (boxed_below X0.out hb1'); have Z1 := Lib.hid (boxed_below X1.out hb1'); have Z2 := Lib.hid (boxed_below X2.out hb1'); have BB1 := Lib.hid (on B0.out (Nat.le_refl _) hb1'); have z0 := Z0.out.cell; have z1 := Z1.out.cell; have z2 := Z2.out.cell; have z3 := Z2.out.frozen; clear hb1 hb1'))
  clear z0 z1 z2 z3 HNW HA
  go_loopg [47] l.length (fun n v wr => ∃ (k : Nat) (L : List Ms) (f : Txt → Option Nat) (mn : Nat) (sl : Value), k ≤ l.length ∧ L.length ≤ k ∧ mn ≤ k ∧ n = l.length - k ∧ v = .int .i64 k ∧ Hid (SJ w true now w2.heap.size (w2.heap.size + 1 + 1) L f mn sl wr))
  case atStart => exact ⟨0, [], _, 0, _, Nat.zero_le _, Nat.le_refl _, Nat.le_refl _, rfl, rfl, HSJ⟩
  case round =>
    obtain ⟨k, L, f, mn, sl, hkl, hLk, hmk, rfl, rfl, HJ⟩ := hrel
    by_cases hlt : k < l.length
    · obtain ⟨x, hx⟩ := some_atP hlt
      obtain ⟨a', bb, o, c', hv, ha, hcx⟩ := (HV0.out.below HJ.out.W).get
      cases hv
      obtain rfl : a0 = some ⟨bb, o, none⟩ := ha.resolve_left (fun h' => by omega)
      have e0 := at1 (f := fun x : Txt => Value.string (str x)) hcx hx
      have HKX : Hid (x.length ≤ maxLen) := HKL.out x (List.mem_of_getElem? hx)
      clear hcx ha hx
      by_cases hkt : k < ts.length
      · obtain ⟨tm, htm⟩ := some_atP hkt
        obtain ⟨a'', b1, o1, c'', hv1, ha1, hcx1⟩ := (HV1.out.below HJ.out.W).get
        cases hv1
        obtain rfl : a1 = some ⟨b1, o1, none⟩ := ha1.resolve_left (fun h' => by omega)
        have e1 := at1 (f := fun x : Nat => Value.int .u64 x) hcx1 htm
        have hkti : (k : Int) < (ts.length : Int) := by omega
        clear hcx1 ha1 htm
        obtain ⟨sa, sn, sc, hsl⟩ : ∃ a n c, sl = .slice a n c := by obtain ⟨a, c, h⟩ := HJ.out.S.slice; exact ⟨a, _, c, h⟩
        subst hsl
        have HLDD : Hid (∀ W, SlG cM 2 W (.slice sa sn sc) L → Calls Try.prog 24 #[.agg #[(.func (.func 21) #[] #[]), .slice sa sn sc], .string (str x), .int .u64 tm] W (LendOutM (.func (.func 21) #[] #[]) (Ls.lend (ltM true) sameM ⟨x, tm⟩ L) W)) := fun W h => HLD.out (.slice sa sn sc) L (by omega) HJ.out.u HJ.out.s ⟨x, tm⟩ W h
        have tt0 : wr.cell? ⟨w2.heap.size, 0, none⟩ = some (.func (.func 21) #[] #[]) := HJ.out.T.c0
        have tt1 := HJ.out.T.c1
        go_wp2_with (go_at_call 24; refine (HLDD.out _ HJ.out.S).mono ?_; rintro e w5 ⟨v5, rfl, hr5, hb5⟩; obtain ⟨a5, n5, c5, rfl⟩ := hr5.slice'; have u0 : w5.cell? ⟨w2.heap.size, 0, none⟩ = some (.func (.func 21) #[] #[]) := (HJ.out.T.below hb5).c0; have u1 := (HJ.out.T.below hb5).c1; have u2 := (HJ.out.T.below hb5).f0; have u3 := (HJ.out.T.below hb5).f1; obtain ⟨W7, hrun, hSJ7, hm6⟩ := sj_step HJ.out hb5 ⟨x, tm⟩ hr5 (HKX.out) (by unfold maxLen; omega); have HS7 := Lib.hid hSJ7; have hm6' : ((w5.setCell ⟨w2.heap.size, 0, none⟩ (.func (.func 21) #[] #[])).setCell ⟨w2.heap.size, 1, none⟩ (.slice a5 n5 c5)).cell? ⟨w2.heap.size + 1 + 1, 0, none⟩ = some (.map (some (w2.heap.size + 1))) := hm6; have hrun' : (Instr.mapUpdate 64 (.map (some (w2.heap.size + 1))) (.string (str x)) (.int .u64 tm)).run Try.prog ((w5.setCell ⟨w2.heap.size, 0, none⟩ (.func (.func 21) #[] #[])).setCell ⟨w2.heap.size, 1, none⟩ (.slice a5 n5 c5)) = .ok () W7 := hrun; clear hr5 hb5 hSJ7 hm6 hrun)
        go_roundg (l.length - (k + 1))
        case measure => omega
        case rel => exact ⟨k + 1, _, _, _, _, hlt, by have := Ls.lend_len (lt := ltM true) (same := sameM) (x := ⟨x, tm⟩) (l := L); omega, by omega, rfl, by go_num, HS7⟩
      · have hkti : ¬ (k : Int) < (ts.length : Int) := by omega
        have hz0 : ((0 : Nat) : Int) = 0 := rfl
        obtain ⟨sa, sn, sc, hsl⟩ : ∃ a n c, sl = .slice a n c := by obtain ⟨a, c, h⟩ := HJ.out.S.slice; exact ⟨a, _, c, h⟩
        subst hsl
        have HLDD : Hid (∀ W, SlG cM 2 W (.slice sa sn sc) L → Calls Try.prog 24 #[.agg #[(.func (.func 21) #[] #[]), .slice sa sn sc], .string (str x), .int .u64 0] W (LendOutM (.func (.func 21) #[] #[]) (Ls.lend (ltM true) sameM ⟨x, 0⟩ L) W)) := fun W h => HLD.out (.slice sa sn sc) L (by omega) HJ.out.u HJ.out.s ⟨x, 0⟩ W h
        have tt0 : wr.cell? ⟨w2.heap.size, 0, none⟩ = some (.func (.func 21) #[] #[]) := HJ.out.T.c0
        have tt1 := HJ.out.T.c1
        go_wp2_with (go_at_call 24; refine (HLDD.out _ HJ.out.S).mono ?_; rintro e w5 ⟨v5, rfl, hr5, hb5⟩; obtain ⟨a5, n5, c5, rfl⟩ := hr5.slice'; have u0 : w5.cell? ⟨w2.heap.size, 0, none⟩ = some (.func (.func 21) #[] #[]) := (HJ.out.T.below hb5).c0; have u1 := (HJ.out.T.below hb5).c1; have u2 := (HJ.out.T.below hb5).f0; have u3 := (HJ.out.T.below hb5).f1; obtain ⟨W7, hrun, hSJ7, hm6⟩ := sj_step HJ.out hb5 ⟨x, 0⟩ hr5 (HKX.out) (by unfold maxLen; omega); have HS7 := Lib.hid hSJ7; have hm6' : ((w5.setCell ⟨w2.heap.size, 0, none⟩ (.func (.func 21) #[] #[])).setCell ⟨w2.heap.size, 1, none⟩ (.slice a5 n5 c5)).cell? ⟨w2.heap.size + 1 + 1, 0, none⟩ = some (.map (some (w2.heap.size + 1))) := hm6; have hrun' : (Instr.mapUpdate 64 (.map (some (w2.heap.size + 1))) (.string (str x)) (.int .u64 0)).run Try.prog ((w5.setCell ⟨w2.heap.size, 0, none⟩ (.func (.func 21) #[] #[])).setCell ⟨w2.heap.size, 1, none⟩ (.slice a5 n5 c5)) = .ok () W7 := hrun; clear hr5 hb5 hSJ7 hm6 hrun)
        go_roundg (l.length - (k + 1))
        case measure => omega
        case rel => exact ⟨k + 1, _, _, _, _, hlt, by have := Ls.lend_len (lt := ltM true) (same := sameM) (x := ⟨x, 0⟩) (l := L); omega, by omega, rfl, by go_num, HS7⟩
    · obtain rfl : k = l.length := by omega
      obtain ⟨sa, sc, hsl⟩ : ∃ a c, sl = .slice a L.length c := HJ.out.S.slice
      subst hsl
      have tt0 : wr.cell? ⟨w2.heap.size, 0, none⟩ = some (.func (.func 21) #[] #[]) := HJ.out.T.c0
      have tt1 := HJ.out.T.c1
      have tt2 := fun o => cell_alloc tt0 o
      have tt3 := fun o => cell_alloc tt1 o
      have tt4 := fun o o2 => cell_alloc (cell_alloc tt0 o) o2
      have tt5 := fun o o2 => cell_alloc (cell_alloc tt1 o) o2
      have tt6 := fun o o2 o3 => cell_alloc (cell_alloc (cell_alloc tt0 o) o2) o3
      have tt7 := fun o o2 o3 => cell_alloc (cell_alloc (cell_alloc tt1 o) o2) o3
      have HAL := Lib.hid (fun W => allM_any (.func (.func 21) #[] #[]) (.slice sa L.length sc) W)
      have HLL : Hid (L.length ≤ 50) := by show _ ≤ _; omega
      have HR0 := Lib.hid (r1_start HJ.out rfl)
      clear tt0 tt1
      go_wp2_with (go_at_call 25; (with_reducible refine (HAL.out _).mono ?_); rintro e w3 ⟨rfl, rfl⟩)
      clear tt2 tt3 tt4 tt5 tt6 tt7
      refine (wpIn_wide (n := 8)).1 ?_
      refine rangeX (n := 8) (gf := 44) (lb := #[.pointer (some ⟨wr.heap.size + 1 + 1 + 1, 0, none⟩)]) (by decide) rfl (fun args w => by kernel_rfl) (all1M_in 7 (by decide) _ _ L (by have := HLL.out; omega)) (fun _ => rfl)
        (.ret) (.ret) (.inl ⟨rfl, rfl⟩)
        (R1 w true now w2.heap.size wr.heap.size L f mn (.slice sa L.length sc)) (fun _ _ => False) (R1.own _ _ _ _ _ _ _ _ _ _ (by have := HR0.out.G; simp <;> omega)) (fun _ _ _ _ h _ _ => h.elim) (fun pre W h => h.ag) (fun pre W q h => h.drewN q) HR0.out
        ?a1 (fun x W => W) (fun x W => .inl rfl) ?assign ?body ?done ?stop
      case stop => exact fun D pre W hD hX => hX.elim
      case assign =>
        intro lr x W K hK
        unfold arM
        gi_wp2
        exact hK
      case body =>
        intro lr pre x W W2 hW2 hI hpre
        have HGO := Lib.hid (fun W' hW => hI.go (B := wr.heap.size + 1 + 1 + 1 + 1) x (W' := W') hW)
        obtain ⟨n1, n2⟩ := next_facts hI.J.s hI.J.u hpre
        have hpx := hpre.length_le
        rw [List.length_append, List.length_singleton] at hpx
        have hLL' := HLL.out
        have q0 := hI.J.M.cell
        have q1 := hI.look x (hpre.subset (by simp))
        have cN := hI.N.cell
        have cT := hI.T.cell
        have cS := hI.S.cell
        have cb := hI.J.b1.cell
        have fN := hI.N.frozen
        have fT := hI.T.frozen
        have fS := hI.S.frozen
        have gG := hI.G
        clear hI hpre hW2
        generalize lastT pre = lt at *
        generalize lastS pre = ls at *
        generalize hpl : pre.length = pl at *
        have n1i : ¬ (x.t : Int) < (lt : Int) := by omega
        have HWR : Hid (wrap64 ((pl : Int) + 1) = (pl : Int) + 1) := by show wrap64 ((pl : Int) + 1) = (pl : Int) + 1; unfold wrap64; omega
        clear hpx hLL'
        by_cases hn0 : 0 < pl
        · have hni : (0 : Int) < (pl : Int) := by omega
          by_cases he : x.t = lt
          · have hei : (x.t : Int) = (lt : Int) := by omega
            gi_wp2
            obtain ⟨g1, g2⟩ := HGO.out _ rfl
            rw [HWR.out, ← he]
            exact .inl ⟨rfl, g1, g2⟩
          · have hei : ¬ (x.t : Int) = (lt : Int) := by omega
            gi_wp2
            obtain ⟨g1, g2⟩ := HGO.out _ rfl
            try rw [HWR.out]
            exact .inl ⟨rfl, g1, g2⟩
        · have hni : ¬ (0 : Int) < (pl : Int) := by omega
          gi_wp2
          obtain ⟨g1, g2⟩ := HGO.out _ rfl
          try rw [HWR.out]
          exact .inl ⟨rfl, g1, g2⟩
      case done =>
        intro D W hD hI hK
        have HI := Lib.hid hI
        have HKD := Lib.hid hK
        have HDH : Hid (w.heap.size + 1 + 1 < D) := by show _ < _; have h1 := hI.J.G; have h2 := hI.G; simp at hD; omega
        have HDUE : Hid (∀ W, SlG cM 2 W (.slice sa L.length sc) L → Calls Try.prog 26 #[.agg #[(.func (.func 21) #[] #[]), .slice sa L.length sc], .int .u64 now] W (DueOutM (.func (.func 21) #[] #[]) now L W)) := fun W h => dueM_any (.func (.func 21) #[] #[]) (fnM_is true) _ now L (by have := HLL.out; omega) W h
        have t0 : W.cell? ⟨w2.heap.size, 0, none⟩ = some (.func (.func 21) #[] #[]) := hI.J.T.c0
        have t1 := hI.J.T.c1
        have t2 := hI.J.b0.cell
        have HLO := Lib.hid (Ls.low_le (fun e : Ms => decide (e.t ≤ now)) L)
        clear hI hK HAL HR0
        go_wp2_with (go_at_call 26; refine (HDUE.out _ (HI.out.J.S)).mono ?_; rintro e w4 ⟨v, s4, rfl, hr, hs, hb⟩; obtain ⟨lo, hlo⟩ : ∃ lo, lo = low (fun e => decide (e.t ≤ now)) L := ⟨_, rfl⟩; rw [← hlo] at hr hs HLO; obtain ⟨va, vc, hv⟩ := hr.slice; rw [List.length_map, List.length_take, Nat.min_eq_left HLO.out] at hv; subst hv; obtain ⟨s4a, s4c, hs4⟩ := hs.slice; rw [List.length_drop] at hs4; subst hs4; have HK2 := Lib.hid (k2_start HI.out HKD.out HDH.out hb hr hs); have HLOW := Lib.hid hlo; clear hr hs hb hlo)
        clear t0 t1 t2
        generalize wr.heap.size = gN at *
        have hlo50 : lo ≤ 50 := Nat.le_trans HLO.out HLL.out
        go_loopg [119] lo (fun n v wz => ∃ k : Nat, k ≤ lo ∧ n = lo - k ∧ v = .int .i64 k ∧ Hid (K2 w true now w2.heap.size gN mn L f (.slice sa L.length sc) (.slice va lo vc) (.slice s4a (L.length - lo) s4c) lo w4.heap.size D wz))
        case atStart => exact ⟨0, Nat.zero_le _, rfl, rfl, HK2⟩
        case round =>
          obtain ⟨k, hk, rfl, rfl, HJ2⟩ := hrel
          have HLOL := HLO
          by_cases hlt : k < lo
          · obtain ⟨s, hs⟩ := some_atP (l := (L.take lo).map keyM) (k := k) (by rw [List.length_map, List.length_take, Nat.min_eq_left HLO.out]; exact hlt)
            obtain ⟨t, ht, hlk⟩ := HJ2.out.look HLOW.out hs
            obtain ⟨a, bb, o, c, hv, hlc, _, ha0, ha, hcx⟩ := HJ2.out.V.get
            rw [List.length_map, List.length_take, Nat.min_eq_left HLO.out] at hv hlc
            cases hv
            obtain rfl : va = some ⟨bb, o, none⟩ := ha.resolve_left (fun h' => by have := ha0 h'; omega)
            have e0 := at1 (f := fun x : Txt => Value.string (str x)) hcx hs
            have q0 := HJ2.out.R.J.M.cell
            have q1 := HJ2.out.R.J.b0.cell
            have hti : ¬ (now : Int) < (t : Int) := by omega
            clear hcx ha0 ha hs hlc
            go_wp2
            go_roundg (lo - (k + 1))
            case measure => omega
            case rel => exact ⟨k + 1, hlt, rfl, by go_num, HJ2⟩
          · obtain rfl : k = lo := by omega
            have y0 : wr.cell? ⟨w4.heap.size, 0, none⟩ = some (.func (.func 21) #[] #[]) := HJ2.out.T.c0
            have y1 := HJ2.out.T.c1
            have HAL2 := Lib.hid (fun W => allM_any (.func (.func 21) #[] #[]) (.slice s4a (L.length - k) s4c) W)
            have HR2 := Lib.hid (r2_start HJ2.out)
            go_wp2_with (go_at_call 25; (with_reducible refine (HAL2.out _).mono ?_); rintro e w5 ⟨rfl, rfl⟩)
            clear y0 y1
            have HG1 : Hid (w4.heap.size < wr.heap.size + 1 ∧ w2.heap.size + 1 < wr.heap.size + 1) := by show _ ∧ _; have h1 := HJ2.out.T.lt; have h2 := HJ2.out.R.J.T.lt; omega
            refine (wpIn_wide (n := 8)).1 ?_
            refine rangeX (n := 8) (gf := 44) (lb := #[.pointer (some ⟨wr.heap.size, 0, none⟩)]) (by decide) rfl (fun args w => by kernel_rfl) (all1M_in 7 (by decide) _ _ (L.drop k) (by have := HLL.out; simp; omega)) (fun _ => rfl)
              (.ret) (.ret) (.inl ⟨rfl, rfl⟩)
              (R2 w true now w2.heap.size gN mn L f (.slice sa L.length sc) (.slice va k vc) (.slice s4a (L.length - k) s4c) k w4.heap.size D wr.heap.size) (fun _ _ => False) (R2.own _ _ _ _ _ _ _ _ _ _ _ _ _ _ _ _ (by have := HG1.out.1; simp <;> omega) (by have := HG1.out.2; simp <;> omega)) (fun _ _ _ _ h _ _ => h.elim) (fun pre W h => h.ag) (fun pre W q h => h.drewN q) HR2.out
              ?a2 (fun x W => W) (fun x W => .inl rfl) ?assign2 ?body2 ?done2 ?stop2
            case stop2 => exact fun D pre W hD hX => hX.elim
            case assign2 =>
              intro lr x W K hK
              unfold arM
              gi_wp2
              exact hK
            case body2 =>
              intro lr pre x W W2 hW2 hI hpre
              have HRR : Hid (R2 w true now w2.heap.size gN mn L f (.slice sa L.length sc) (.slice va k vc) (.slice s4a (L.length - k) s4c) k w4.heap.size D wr.heap.size (pre ++ [x]) W2) := ⟨hI.J, hI.A⟩
              have q0 := hI.J.R.J.b0.cell
              have hx := rest_above hI.J.R.J.s HLOW.out hpre
              have hxi : ¬ (x.t : Int) ≤ (now : Int) := by omega
              clear hI hpre hW2
              gi_wp2
              exact .inl ⟨rfl, KeepsFrom.refl _ _, HRR.out⟩
            case done2 =>
              intro D2 W5 hD5 hI5 hK5
              have HFR := Lib.hid (firstR hI5.J)
              have HKJ := Lib.hid hI5.J
              have HK5 := Lib.hid hK5
              have HD5 : Hid (w4.heap.size < D2) := by show _ < _; have := HG1.out.1; simp at hD5; omega
              have HLN := Lib.hid (fun W => lenM_below (.func (.func 21) #[] #[]) s4a (L.length - k) s4c W)
              have HNE : Hid (w.heap.size + 1 + 1 ≠ w2.heap.size + 1 + 1 ∧ w.heap.size + 1 + 1 ≠ w4.heap.size ∧ w2.heap.size + 1 ≠ w.heap.size + 1 + 1) := by show _ ∧ _ ∧ _; have h1 := hI5.J.R.J.G; have h2 := hI5.J.H; have h3 := hI5.J.G; omega
              have HNG : Hid (w.heap.size + 1 + 1 ≠ gN) := by show _ ≠ _; have h1 := hI5.J.R.J.G; have h2 := hI5.J.R.G; omega
              have hkl5 : k ≤ L.length := HLO.out
              have hL50 : L.length ≤ 50 := HLL.out
              have hW0 : w.heap.size + 1 + 1 < W5.heap.size := hI5.J.R.J.b2.lt
              clear hI5 hK5 hD5
              go_wp2_with fail
              go_region_held3 (fun w' => w'.cell? ⟨gN, 0, none⟩ = some (.int .i64 L.length) ∧ w'.cell? ⟨w2.heap.size + 1 + 1, 0, none⟩ = some (.map (some (w2.heap.size + 1))) ∧ w'.cell? ⟨w4.heap.size, 0, none⟩ = some (.func (.func 21) #[] #[]) ∧ w'.cell? ⟨w4.heap.size, 1, none⟩ = some (.slice s4a (L.length - k) s4c) ∧ w'.cell? ⟨w.heap.size + 1 + 1, 0, none⟩ = some (cv w' (w.heap.size + 1 + 1) 0) ∧ w'.frozen? ⟨w.heap.size + 1 + 1, 0, none⟩ = false ∧ (Builtin.len_ #[64] 3 #[.map (some (w2.heap.size + 1))]).run Try.prog w' = .ok (.int .i64 L.length) w' ∧ MapN w' (w2.heap.size + 1) mn f L.length ∧ Below w.heap.size w w')
                ((first | with_reducible assumption | exact HFR.out | (with_reducible exact stepR (Nat.le_refl _) ‹_› hb) | (exact stepR (Nat.le_refl _) HFR.out hb) | exact stepRs ‹_› HNG.out HNE.out.1 HNE.out.2.1 HNE.out.2.2 (by omega)))
                (first
                | (go_at_call 27; refine (HLN.out _).mono ?_; rintro e w7 ⟨rfl, hb⟩; have HB7 := Lib.hid hb))
              rename_i hS
              clear hS
              have HTV : Hid ((IntKind.i64.wrap ((k : Int) + ((L.length - k : Nat) : Int)) == (L.length : Int)) = true) := by
                show _ = true
                rw [show (k : Int) + ((L.length - k : Nat) : Int) = (L.length : Int) by omega]
                have : IntKind.i64.wrap (L.length : Int) = (L.length : Int) := by
                  rw [IntKind.wrap_i64]; omega
                rw [this]
                simp
              rw [HTV.out]
              go_wp2
              rw [HQ.out]
              exact sortsEnd2 rfl HKJ.out HK5.out HD5.out ((Below.refl _ _).drew.trans HB7.out)
end Go.Proofs.Ytlkdfmfcjlfihaa
