/- LeasePlays: the law's walk. -/
import Derived.Test.YtpgaepilnbjhbaaLsSt4
import Derived.Deep.LoopGhost
import Derived.Deep.DeepCutAuto
import Derived.Deep.CutRange
import Derived.Deep.CutBlock
import Derived.Deep.RegionHeld3
set_option maxRecDepth 100000
set_option maxHeartbeats 4000000
set_option linter.unusedVariables false
namespace Go.Proofs.Ytpgaepilnbjhbaa
open Go.RowKit
open Ls (Txt Ln Ms sameL ltL low Mono Srt Uni free lend)
attribute [local go_sem] Oper.semAt_some store_fn store_nil
set_option linter.unusedSimpArgs false in
set_option maxHeartbeats 2000000 in
set_option maxRecDepth 100000 in
theorem plays_walk (v0 : Value) (l : List Ac) (w : World) (h0 : SlW cA 4 w v0 l) :
    Calls Try.prog 3 #[v0] w fun e W' => e = .returned (.bool true) ∧ Below w.heap.size w W' := by
  have HV0 := Lib.hid h0
  obtain ⟨a0, c0, rfl⟩ := h0.slice
  have HA := Lib.hid (fun w => awake_any w)
  have HK := Lib.hid (fun w => keys_any w)
  clear h0
  by_cases hl : (50 : Int) < (l.length : Int)
  · go_enter Try.func3, Try.ntmps3
    go_wp2_with (go_at_call 6; (with_reducible refine (HA.out _).mono ?_); rintro e w1 ⟨rfl, hb1⟩; have HB1 := Lib.hid hb1; clear hb1)
    go_ret
    exact ⟨rfl, HB1.out⟩
  have d1 : decide ((50 : Int) < (l.length : Int)) = false := decide_eq_false hl
  have hl' : l.length ≤ 50 := by omega
  clear hl
  go_enter Try.func3, Try.ntmps3
  go_wp2_with (first
    | (go_at_call 6; (with_reducible refine (HA.out _).mono ?_); rintro e w1 ⟨rfl, hb1⟩; have HB1 := Lib.hid hb1; clear hb1)
    | (go_at_call 7; (with_reducible refine (HK.out _).mono ?_); rintro e w2 ⟨rfl, hb2⟩; have HST := Lib.hid (st_start (on HB1.out (Nat.le_refl _) hb2)); clear hb2))
  go_loopg [4, 5, 6, 28] l.length (fun n v4 v5 v6 v wr => ∃ (k : Nat) (L : List Ln) (Ms : List (List Ln)) (sl : Value), k ≤ l.length ∧ Ms.length = k ∧ n = l.length - k ∧ v = .int .i64 k ∧ Hid (St w w2.heap.size L Ms sl v4 v5 v6 wr))
  case atStart => exact ⟨0, [], [], _, Nat.zero_le _, rfl, rfl, rfl, HST⟩
  case round =>
    obtain ⟨k, L, Ms, sl, hkl, hMk, rfl, rfl, HJ⟩ := hrel
    by_cases hlt : k < l.length
    · obtain ⟨x, hx⟩ := some_atP hlt
      obtain ⟨a', bb, o, c', hv, ha, hcx⟩ := (HV0.out.below HJ.out.bel).get
      cases hv
      obtain rfl : a0 = some ⟨bb, o, none⟩ := ha.resolve_left (fun h' => by omega)
      obtain ⟨e0, e1, e2, e3⟩ := at4 hcx hx
      clear hcx ha hx
      by_cases hq : (300 : Int) < ((str x.q).size : Int)
      · have HBL := Lib.hid HJ.out.bel
        go_wp2
        go_ret
        exact ⟨rfl, on HBL.out (Nat.le_refl _) (below_alloc _ _)⟩
      · have d2 : decide ((300 : Int) < ((str x.q).size : Int)) = false := decide_eq_false hq
        clear hq
        obtain ⟨a3, c3, rfl⟩ := HJ.out.tab.g.slice
        obtain ⟨a4, c4, rfl⟩ := HJ.out.lst.g.slice
        have HJ1 := Lib.hid (HJ.out.below (below_alloc wr (.cells #[.int .i64 x.d, .string (str x.q), .int .u64 x.id, .int .u64 x.n] 36)))
        have HAB := Lib.hid (AB.new wr x)
        obtain ⟨v5', w5, v6', w6, hr5, hr6, hS6, hB6, hK6, a5, n5, c5, a6, n6, c6, rfl, rfl⟩ := HJ1.out.push (by omega) 30 31
        obtain ⟨s5, hs5, -⟩ := HJ.out.T
        obtain ⟨s6, hs6, -⟩ := HJ.out.P
        obtain ⟨a5', n5', c5', rfl⟩ := hs5.slice'
        obtain ⟨a6', n6', c6', rfl⟩ := hs6.slice'
        have HS6 := Lib.hid hS6
        have HAB6 : Hid (AB w6 wr.heap.size x) := hK6 _ _ _ HAB.out (by decide) (by decide)
        have b0 := HJ1.out.box.c0
        have b1 := HJ1.out.box.c1
        rw [World.size_alloc] at hr5
        clear hS6 hB6 hK6 hs5 hs6
        go_upto_region 15 with (at_builtin; first | refine Lib.wpList_append_run _ rfl _ _ _ _ rfl _ _ rfl rfl _ _ hr5 ?_ | refine Lib.wpList_append_run _ rfl _ _ _ _ rfl _ _ rfl rfl _ _ hr6 ?_)
        obtain ⟨d0, d1', d2', d3⟩ := HAB6.out.c
        go_upto_block 2 with fail
        go_cut [4] (fun v wx => ∃ (L' : List Ln) (sl' : Value), Hid (St w w2.heap.size L' (Ms ++ [L]) sl' v (.slice a5 n5 c5) (.slice a6 n6 c6) wx) ∧ Hid (AB wx wr.heap.size x))
        case first =>
          have HNL : Hid (L.length ≤ 50) := by show _ ≤ _; have := HS6.out.len; have := HJ.out.len; omega
          have HCUR := Lib.hid (HS6.out.below (below_drewT (Below.refl _ _) 1))
          have c0 : w6.drew.cell? ⟨w2.heap.size, 0, none⟩ = some CMP := HCUR.out.box.c0
          have c1 : w6.drew.cell? ⟨w2.heap.size, 1, none⟩ = some (.slice a3 L.length c3) := HCUR.out.box.c1
          have HF := Lib.hid (fun sl W h => free_t x.ln sl L (by have := HNL.out; omega) HS6.out.uni W h)
          have HRF := Lib.hid (fun sl W h => rfree_t x.ln sl L (by have := HNL.out; omega) W h)
          by_cases r1 : x.d.tmod 5 = 1
          · have q1 : (x.d.tmod 5 == 1) = true := by simpa using r1
            clear r1
            --R19a
            go_wp2_with fail
            refine wp_region_noPanic ?_
            refine wp_region_held_drew (S := (fun W' => W'.cell? ⟨wr.heap.size, 0, none⟩ = some (.int .i64 x.d) ∧ W'.cell? ⟨wr.heap.size, 1, none⟩ = some (.string (str x.q)) ∧ W'.cell? ⟨wr.heap.size, 2, none⟩ = some (.int .u64 x.id) ∧ W'.cell? ⟨wr.heap.size, 3, none⟩ = some (.int .u64 x.n) ∧ AB W' wr.heap.size x ∧ ∃ y0 y1, Boxed2 W' w2.heap.size 27 y0 y1)) (by kernel_rfl) (sx_first (W := w6.drew) (AB.below HAB6.out (below_drewT (Below.refl _ _) 1)) HCUR.out.box) (fun hHeld => ?_)
            refine wpAnyH_take (i := 1) (v := ?hv1R19a) rfl (by kernel_rfl) (by kernel_rfl) (by kernel_rfl) (fun _ _ _ h => h) (Or.inl ⟨by rfl, ?hy1R19a⟩) (by assumption) ?_
            case hy1R19a => (intro w hSw; (try dsimp only at hSw); (try simp only [List.getElem_toArray, List.getElem_cons_succ, List.getElem_cons_zero]); go_simp; (try with_reducible rfl))
            try simp only [Act.put, List.setIfInBounds_toArray, List.set_cons_zero, List.set_cons_succ, List.getElem_toArray, List.getElem_cons_succ, List.getElem_cons_zero]
            refine wpAnyH_take (i := 2) (v := ?hv2R19a) rfl (by kernel_rfl) (by kernel_rfl) (by kernel_rfl) (fun _ _ _ h => h) (Or.inl ⟨by rfl, ?hy2R19a⟩) (by assumption) ?_
            case hy2R19a => (intro w hSw; (try dsimp only at hSw); (try simp only [List.getElem_toArray, List.getElem_cons_succ, List.getElem_cons_zero]); go_simp; (try with_reducible rfl))
            try simp only [Act.put, List.setIfInBounds_toArray, List.set_cons_zero, List.set_cons_succ, List.getElem_toArray, List.getElem_cons_succ, List.getElem_cons_zero]
            refine wpAnyH_take (i := 4) (v := ?hv4R19a) rfl (by kernel_rfl) (by kernel_rfl) (by kernel_rfl) (fun _ _ _ h => h) (Or.inl ⟨by rfl, ?hy4R19a⟩) (by assumption) ?_
            case hy4R19a => (intro w hSw; (try dsimp only at hSw); (try simp only [List.getElem_toArray, List.getElem_cons_succ, List.getElem_cons_zero]); go_simp; (try with_reducible rfl))
            try simp only [Act.put, List.setIfInBounds_toArray, List.set_cons_zero, List.set_cons_succ, List.getElem_toArray, List.getElem_cons_succ, List.getElem_cons_zero]
            refine wpAnyH_take (i := 5) (v := ?hv5R19a) rfl (by kernel_rfl) (by kernel_rfl) (by kernel_rfl) (fun _ _ _ h => h) (Or.inl ⟨by rfl, ?hy5R19a⟩) (by assumption) ?_
            case hy5R19a => (intro w hSw; (try dsimp only at hSw); (try simp only [List.getElem_toArray, List.getElem_cons_succ, List.getElem_cons_zero]); go_simp; (try with_reducible rfl))
            try simp only [Act.put, List.setIfInBounds_toArray, List.set_cons_zero, List.set_cons_succ, List.getElem_toArray, List.getElem_cons_succ, List.getElem_cons_zero]
            refine wpAnyH_take (i := 6) (v := ?hv6R19a) rfl (by kernel_rfl) (by kernel_rfl) (by kernel_rfl) (fun _ _ _ h => h) (Or.inl ⟨by rfl, ?hy6R19a⟩) (by assumption) ?_
            case hy6R19a => (intro w hSw; (try dsimp only at hSw); (try simp only [List.getElem_toArray, List.getElem_cons_succ, List.getElem_cons_zero]); go_simp; (try with_reducible rfl))
            try simp only [Act.put, List.setIfInBounds_toArray, List.set_cons_zero, List.set_cons_succ, List.getElem_toArray, List.getElem_cons_succ, List.getElem_cons_zero]
            refine wpAnyH_take (i := 7) (v := ?hv7R19a) rfl (by kernel_rfl) (by kernel_rfl) (by kernel_rfl) (fun _ _ _ h => h) (Or.inl ⟨by rfl, ?hy7R19a⟩) (by assumption) ?_
            case hy7R19a => (intro w hSw; (try dsimp only at hSw); (try simp only [List.getElem_toArray, List.getElem_cons_succ, List.getElem_cons_zero]); go_simp; (try with_reducible rfl))
            try simp only [Act.put, List.setIfInBounds_toArray, List.set_cons_zero, List.set_cons_succ, List.getElem_toArray, List.getElem_cons_succ, List.getElem_cons_zero]
            refine wpAnyH_take (i := 8) (v := ?hv8R19a) rfl (by kernel_rfl) (by kernel_rfl) (by kernel_rfl) (fun _ _ _ h => h) (Or.inl ⟨by rfl, ?hy8R19a⟩) (by assumption) ?_
            case hy8R19a => (intro w hSw; (try dsimp only at hSw); (try simp only [List.getElem_toArray, List.getElem_cons_succ, List.getElem_cons_zero]); go_simp; (try with_reducible rfl))
            try simp only [Act.put, List.setIfInBounds_toArray, List.set_cons_zero, List.set_cons_succ, List.getElem_toArray, List.getElem_cons_succ, List.getElem_cons_zero]
            refine wpAnyH_take (i := 9) (v := ?hv9R19a) rfl (by kernel_rfl) (by kernel_rfl) (by kernel_rfl) (fun _ _ _ h => h) (Or.inl ⟨by rfl, ?hy9R19a⟩) (by assumption) ?_
            case hy9R19a => (intro w hSw; (try dsimp only at hSw); (try simp only [List.getElem_toArray, List.getElem_cons_succ, List.getElem_cons_zero]); go_simp; (try with_reducible rfl))
            try simp only [Act.put, List.setIfInBounds_toArray, List.set_cons_zero, List.set_cons_succ, List.getElem_toArray, List.getElem_cons_succ, List.getElem_cons_zero]
            refine wpAnyH_take (i := 10) (v := ?hv10R19a) rfl (by kernel_rfl) (by kernel_rfl) (by kernel_rfl) (fun _ _ _ h => h) (Or.inl ⟨by rfl, ?hy10R19a⟩) (by assumption) ?_
            case hy10R19a => (intro w hSw; (try dsimp only at hSw); (try simp only [List.getElem_toArray, List.getElem_cons_succ, List.getElem_cons_zero]); go_simp; (try with_reducible rfl))
            try simp only [Act.put, List.setIfInBounds_toArray, List.set_cons_zero, List.set_cons_succ, List.getElem_toArray, List.getElem_cons_succ, List.getElem_cons_zero]
            refine wpAnyH_ready (rs := [0]) (by kernel_rfl) (by simp) ?_
            refine AllReadyH.cons rfl (fun K hK => ?_) AllReadyH.nil
            try simp only [List.getElem_toArray, List.getElem_cons_succ, List.getElem_cons_zero]
            go_simp
            refine hK.out _ _ ?hk0R19a (fun hHeld => ?_)
            case hk0R19a => (assumption)
            clear hK K
            try simp only [Act.put, List.setIfInBounds_toArray, List.set_cons_zero, List.set_cons_succ, List.getElem_toArray, List.getElem_cons_succ, List.getElem_cons_zero]
            refine wpAnyH_ready (rs := [3]) (by kernel_rfl) (by simp) ?_
            refine AllReadyH.cons rfl (fun K hK => ?_) AllReadyH.nil
            try simp only [List.getElem_toArray, List.getElem_cons_succ, List.getElem_cons_zero]
            go_simp
            (go_at_call 8; refine (HF.out _ _ HCUR.out.tab).mono ?_; rintro e wA ⟨vA, rfl, hsA, hb⟩; obtain ⟨aA, cA', rfl⟩ := hsA.g.slice; have HRA := Lib.hid hsA; have HCUR := Lib.hid (HCUR.out.below hb))
            refine hK.out _ _ ?hk3R19a (fun hHeld => ?_)
            case hk3R19a => (exact sx_step hHeld hb)
            clear hK K
            try simp only [Act.put, List.setIfInBounds_toArray, List.set_cons_zero, List.set_cons_succ, List.getElem_toArray, List.getElem_cons_succ, List.getElem_cons_zero]
            refine wpAnyH_ready (rs := [11]) (by kernel_rfl) (by simp) ?_
            refine AllReadyH.cons rfl (fun K hK => ?_) AllReadyH.nil
            try simp only [List.getElem_toArray, List.getElem_cons_succ, List.getElem_cons_zero]
            go_simp
            (go_at_call 9; refine (HRF.out _ _ HCUR.out.lst).mono ?_; rintro e wB ⟨vB, rfl, hsB, hb⟩; obtain ⟨aB, cB, rfl⟩ := hsB.g.slice; have HRB := Lib.hid hsB; have HRA := Lib.hid (HRA.out.below hb); have HCUR := Lib.hid (HCUR.out.below hb); have c0 := HCUR.out.box.c0; have c1 := HCUR.out.box.c1; have f0 := HCUR.out.box.f0; have f1 := HCUR.out.box.f1)
            refine hK.out _ _ ?hk11R19a (fun hHeld => ?_)
            case hk11R19a => (exact sx_step hHeld hb)
            clear hK K
            try simp only [Act.put, List.setIfInBounds_toArray, List.set_cons_zero, List.set_cons_succ, List.getElem_toArray, List.getElem_cons_succ, List.getElem_cons_zero]
            refine wpAnyH_ready (rs := [12]) (by kernel_rfl) (by simp) ?_
            refine AllReadyH.cons rfl (fun K hK => ?_) AllReadyH.nil
            try simp only [List.getElem_toArray, List.getElem_cons_succ, List.getElem_cons_zero]
            go_simp
            refine hK.out _ _ ?hk12R19a (fun hHeld => ?_)
            case hk12R19a => (exact sx_set hHeld)
            clear hK K
            try simp only [Act.put, List.setIfInBounds_toArray, List.set_cons_zero, List.set_cons_succ, List.getElem_toArray, List.getElem_cons_succ, List.getElem_cons_zero]
            refine wpAnyH_take (i := 13) (v := ?hv13R19a) rfl (by kernel_rfl) (by kernel_rfl) (by kernel_rfl) (fun _ _ _ h => h) (Or.inl ⟨by rfl, ?hy13R19a⟩) (by assumption) ?_
            case hy13R19a => (intro w hSw; (try dsimp only at hSw); (try simp only [List.getElem_toArray, List.getElem_cons_succ, List.getElem_cons_zero]); go_simp; (try with_reducible rfl))
            try simp only [Act.put, List.setIfInBounds_toArray, List.set_cons_zero, List.set_cons_succ, List.getElem_toArray, List.getElem_cons_succ, List.getElem_cons_zero]
            refine wpAnyH_done (by kernel_rfl) ?_ _
            refine NoPanic.normal ?_
            have HPUT := Lib.hid (HCUR.out.put HRA.out HRB.out ⟨(actF_ok x.ln HS6.out.srt HS6.out.uni).1, (actF_ok x.ln HS6.out.srt HS6.out.uni).2.1, by have h1 := (actF_ok x.ln HS6.out.srt HS6.out.uni).2.2; rw [List.length_append]; have h2 := HJ.out.len; simp; omega⟩)
            have HABZ := Lib.hid hHeld.2.2.2.2.1
            go_wp2_with fail
            go_meet
            exact ⟨_, _, HPUT, HABZ⟩
            --ENDR19a
          by_cases r1' : x.d.tmod 5 = -1
          · have q1 : (x.d.tmod 5 == 1) = false := by simpa using r1
            have q1' : (x.d.tmod 5 == -1) = true := by simpa using r1'
            clear r1 r1'
            --R19b
            go_wp2_with fail
            refine wp_region_noPanic ?_
            refine wp_region_held_drew (S := (fun W' => W'.cell? ⟨wr.heap.size, 0, none⟩ = some (.int .i64 x.d) ∧ W'.cell? ⟨wr.heap.size, 1, none⟩ = some (.string (str x.q)) ∧ W'.cell? ⟨wr.heap.size, 2, none⟩ = some (.int .u64 x.id) ∧ W'.cell? ⟨wr.heap.size, 3, none⟩ = some (.int .u64 x.n) ∧ AB W' wr.heap.size x ∧ ∃ y0 y1, Boxed2 W' w2.heap.size 27 y0 y1)) (by kernel_rfl) (sx_first (W := w6.drew) (AB.below HAB6.out (below_drewT (Below.refl _ _) 1)) HCUR.out.box) (fun hHeld => ?_)
            refine wpAnyH_take (i := 1) (v := ?hv1R19b) rfl (by kernel_rfl) (by kernel_rfl) (by kernel_rfl) (fun _ _ _ h => h) (Or.inl ⟨by rfl, ?hy1R19b⟩) (by assumption) ?_
            case hy1R19b => (intro w hSw; (try dsimp only at hSw); (try simp only [List.getElem_toArray, List.getElem_cons_succ, List.getElem_cons_zero]); go_simp; (try with_reducible rfl))
            try simp only [Act.put, List.setIfInBounds_toArray, List.set_cons_zero, List.set_cons_succ, List.getElem_toArray, List.getElem_cons_succ, List.getElem_cons_zero]
            refine wpAnyH_take (i := 2) (v := ?hv2R19b) rfl (by kernel_rfl) (by kernel_rfl) (by kernel_rfl) (fun _ _ _ h => h) (Or.inl ⟨by rfl, ?hy2R19b⟩) (by assumption) ?_
            case hy2R19b => (intro w hSw; (try dsimp only at hSw); (try simp only [List.getElem_toArray, List.getElem_cons_succ, List.getElem_cons_zero]); go_simp; (try with_reducible rfl))
            try simp only [Act.put, List.setIfInBounds_toArray, List.set_cons_zero, List.set_cons_succ, List.getElem_toArray, List.getElem_cons_succ, List.getElem_cons_zero]
            refine wpAnyH_take (i := 4) (v := ?hv4R19b) rfl (by kernel_rfl) (by kernel_rfl) (by kernel_rfl) (fun _ _ _ h => h) (Or.inl ⟨by rfl, ?hy4R19b⟩) (by assumption) ?_
            case hy4R19b => (intro w hSw; (try dsimp only at hSw); (try simp only [List.getElem_toArray, List.getElem_cons_succ, List.getElem_cons_zero]); go_simp; (try with_reducible rfl))
            try simp only [Act.put, List.setIfInBounds_toArray, List.set_cons_zero, List.set_cons_succ, List.getElem_toArray, List.getElem_cons_succ, List.getElem_cons_zero]
            refine wpAnyH_take (i := 5) (v := ?hv5R19b) rfl (by kernel_rfl) (by kernel_rfl) (by kernel_rfl) (fun _ _ _ h => h) (Or.inl ⟨by rfl, ?hy5R19b⟩) (by assumption) ?_
            case hy5R19b => (intro w hSw; (try dsimp only at hSw); (try simp only [List.getElem_toArray, List.getElem_cons_succ, List.getElem_cons_zero]); go_simp; (try with_reducible rfl))
            try simp only [Act.put, List.setIfInBounds_toArray, List.set_cons_zero, List.set_cons_succ, List.getElem_toArray, List.getElem_cons_succ, List.getElem_cons_zero]
            refine wpAnyH_take (i := 6) (v := ?hv6R19b) rfl (by kernel_rfl) (by kernel_rfl) (by kernel_rfl) (fun _ _ _ h => h) (Or.inl ⟨by rfl, ?hy6R19b⟩) (by assumption) ?_
            case hy6R19b => (intro w hSw; (try dsimp only at hSw); (try simp only [List.getElem_toArray, List.getElem_cons_succ, List.getElem_cons_zero]); go_simp; (try with_reducible rfl))
            try simp only [Act.put, List.setIfInBounds_toArray, List.set_cons_zero, List.set_cons_succ, List.getElem_toArray, List.getElem_cons_succ, List.getElem_cons_zero]
            refine wpAnyH_take (i := 7) (v := ?hv7R19b) rfl (by kernel_rfl) (by kernel_rfl) (by kernel_rfl) (fun _ _ _ h => h) (Or.inl ⟨by rfl, ?hy7R19b⟩) (by assumption) ?_
            case hy7R19b => (intro w hSw; (try dsimp only at hSw); (try simp only [List.getElem_toArray, List.getElem_cons_succ, List.getElem_cons_zero]); go_simp; (try with_reducible rfl))
            try simp only [Act.put, List.setIfInBounds_toArray, List.set_cons_zero, List.set_cons_succ, List.getElem_toArray, List.getElem_cons_succ, List.getElem_cons_zero]
            refine wpAnyH_take (i := 8) (v := ?hv8R19b) rfl (by kernel_rfl) (by kernel_rfl) (by kernel_rfl) (fun _ _ _ h => h) (Or.inl ⟨by rfl, ?hy8R19b⟩) (by assumption) ?_
            case hy8R19b => (intro w hSw; (try dsimp only at hSw); (try simp only [List.getElem_toArray, List.getElem_cons_succ, List.getElem_cons_zero]); go_simp; (try with_reducible rfl))
            try simp only [Act.put, List.setIfInBounds_toArray, List.set_cons_zero, List.set_cons_succ, List.getElem_toArray, List.getElem_cons_succ, List.getElem_cons_zero]
            refine wpAnyH_take (i := 9) (v := ?hv9R19b) rfl (by kernel_rfl) (by kernel_rfl) (by kernel_rfl) (fun _ _ _ h => h) (Or.inl ⟨by rfl, ?hy9R19b⟩) (by assumption) ?_
            case hy9R19b => (intro w hSw; (try dsimp only at hSw); (try simp only [List.getElem_toArray, List.getElem_cons_succ, List.getElem_cons_zero]); go_simp; (try with_reducible rfl))
            try simp only [Act.put, List.setIfInBounds_toArray, List.set_cons_zero, List.set_cons_succ, List.getElem_toArray, List.getElem_cons_succ, List.getElem_cons_zero]
            refine wpAnyH_take (i := 10) (v := ?hv10R19b) rfl (by kernel_rfl) (by kernel_rfl) (by kernel_rfl) (fun _ _ _ h => h) (Or.inl ⟨by rfl, ?hy10R19b⟩) (by assumption) ?_
            case hy10R19b => (intro w hSw; (try dsimp only at hSw); (try simp only [List.getElem_toArray, List.getElem_cons_succ, List.getElem_cons_zero]); go_simp; (try with_reducible rfl))
            try simp only [Act.put, List.setIfInBounds_toArray, List.set_cons_zero, List.set_cons_succ, List.getElem_toArray, List.getElem_cons_succ, List.getElem_cons_zero]
            refine wpAnyH_ready (rs := [0]) (by kernel_rfl) (by simp) ?_
            refine AllReadyH.cons rfl (fun K hK => ?_) AllReadyH.nil
            try simp only [List.getElem_toArray, List.getElem_cons_succ, List.getElem_cons_zero]
            go_simp
            refine hK.out _ _ ?hk0R19b (fun hHeld => ?_)
            case hk0R19b => (assumption)
            clear hK K
            try simp only [Act.put, List.setIfInBounds_toArray, List.set_cons_zero, List.set_cons_succ, List.getElem_toArray, List.getElem_cons_succ, List.getElem_cons_zero]
            refine wpAnyH_ready (rs := [3]) (by kernel_rfl) (by simp) ?_
            refine AllReadyH.cons rfl (fun K hK => ?_) AllReadyH.nil
            try simp only [List.getElem_toArray, List.getElem_cons_succ, List.getElem_cons_zero]
            go_simp
            (go_at_call 8; refine (HF.out _ _ HCUR.out.tab).mono ?_; rintro e wA ⟨vA, rfl, hsA, hb⟩; obtain ⟨aA, cA', rfl⟩ := hsA.g.slice; have HRA := Lib.hid hsA; have HCUR := Lib.hid (HCUR.out.below hb))
            refine hK.out _ _ ?hk3R19b (fun hHeld => ?_)
            case hk3R19b => (exact sx_step hHeld hb)
            clear hK K
            try simp only [Act.put, List.setIfInBounds_toArray, List.set_cons_zero, List.set_cons_succ, List.getElem_toArray, List.getElem_cons_succ, List.getElem_cons_zero]
            refine wpAnyH_ready (rs := [11]) (by kernel_rfl) (by simp) ?_
            refine AllReadyH.cons rfl (fun K hK => ?_) AllReadyH.nil
            try simp only [List.getElem_toArray, List.getElem_cons_succ, List.getElem_cons_zero]
            go_simp
            (go_at_call 9; refine (HRF.out _ _ HCUR.out.lst).mono ?_; rintro e wB ⟨vB, rfl, hsB, hb⟩; obtain ⟨aB, cB, rfl⟩ := hsB.g.slice; have HRB := Lib.hid hsB; have HRA := Lib.hid (HRA.out.below hb); have HCUR := Lib.hid (HCUR.out.below hb); have c0 := HCUR.out.box.c0; have c1 := HCUR.out.box.c1; have f0 := HCUR.out.box.f0; have f1 := HCUR.out.box.f1)
            refine hK.out _ _ ?hk11R19b (fun hHeld => ?_)
            case hk11R19b => (exact sx_step hHeld hb)
            clear hK K
            try simp only [Act.put, List.setIfInBounds_toArray, List.set_cons_zero, List.set_cons_succ, List.getElem_toArray, List.getElem_cons_succ, List.getElem_cons_zero]
            refine wpAnyH_ready (rs := [12]) (by kernel_rfl) (by simp) ?_
            refine AllReadyH.cons rfl (fun K hK => ?_) AllReadyH.nil
            try simp only [List.getElem_toArray, List.getElem_cons_succ, List.getElem_cons_zero]
            go_simp
            refine hK.out _ _ ?hk12R19b (fun hHeld => ?_)
            case hk12R19b => (exact sx_set hHeld)
            clear hK K
            try simp only [Act.put, List.setIfInBounds_toArray, List.set_cons_zero, List.set_cons_succ, List.getElem_toArray, List.getElem_cons_succ, List.getElem_cons_zero]
            refine wpAnyH_take (i := 13) (v := ?hv13R19b) rfl (by kernel_rfl) (by kernel_rfl) (by kernel_rfl) (fun _ _ _ h => h) (Or.inl ⟨by rfl, ?hy13R19b⟩) (by assumption) ?_
            case hy13R19b => (intro w hSw; (try dsimp only at hSw); (try simp only [List.getElem_toArray, List.getElem_cons_succ, List.getElem_cons_zero]); go_simp; (try with_reducible rfl))
            try simp only [Act.put, List.setIfInBounds_toArray, List.set_cons_zero, List.set_cons_succ, List.getElem_toArray, List.getElem_cons_succ, List.getElem_cons_zero]
            refine wpAnyH_done (by kernel_rfl) ?_ _
            refine NoPanic.normal ?_
            have HPUT := Lib.hid (HCUR.out.put HRA.out HRB.out ⟨(actF_ok x.ln HS6.out.srt HS6.out.uni).1, (actF_ok x.ln HS6.out.srt HS6.out.uni).2.1, by have h1 := (actF_ok x.ln HS6.out.srt HS6.out.uni).2.2; rw [List.length_append]; have h2 := HJ.out.len; simp; omega⟩)
            have HABZ := Lib.hid hHeld.2.2.2.2.1
            go_wp2_with fail
            go_meet
            exact ⟨_, _, HPUT, HABZ⟩
            --ENDR19b
          by_cases r2 : x.d.tmod 5 = 2
          · skip
            --R2a
            have q1 : (x.d.tmod 5 == 1) = false := by simpa using r1
            have q1' : (x.d.tmod 5 == -1) = false := by simpa using r1'
            have q2 : (x.d.tmod 5 == 2) = true := by simpa using r2
            clear r1 r1' r2
            obtain ⟨D, hD⟩ : ∃ D, D = (L.filter (dueP x.n)).length := ⟨_, rfl⟩
            have HDL := Lib.hid hD
            have HD50 : Hid (D ≤ 50) := by show _ ≤ _; have := HNL.out; have := List.length_filter_le (dueP x.n) L; omega
            clear hD
            have HDU := Lib.hid (fun sl W h => due_t x.n sl L (by have := HNL.out; omega) HS6.out.srt D HDL.out W h)
            have HRD := Lib.hid (fun sl W h => rdue_t x.n sl L (by have := HNL.out; omega) D HDL.out W h)
            have HLM : Hid (L.length + 1 ≤ (Ms ++ [L]).length) := by show _ ≤ _; rw [List.length_append, List.length_singleton]; have := HJ.out.len; omega
            have k0 : w6.cell? ⟨w2.heap.size, 0, none⟩ = some CMP := HS6.out.box.c0
            have k1 := HS6.out.box.c1
            go_upto_region 25 with (go_at_call 10; refine (HDU.out _ _ HS6.out.tab).mono ?_; rintro e w7 ⟨ag, cg, v7, rfl, hg7, hs7, hb7⟩; obtain ⟨⟨a7, n7, c7⟩, hx7⟩ := hs7.g.sl; have hx8 : v7 = .slice a7 n7 c7 := hx7.symm; clear hx7; subst hx8; have hS7 := HS6.out.below hb7; have g0 := hS7.box.c0; have g1 := hS7.box.c1; have g2 := hS7.box.f0; have g3 := hS7.box.f1; have HP0 := Lib.hid (hS7.duePut HLM.out hs7); have HP2 := Lib.hid (ab_set (z0 := CMP) (z1 := .slice a7 n7 c7) (HAB6.out.below hb7) hS7.box); have HG := Lib.hid ((hg7.set2 hS7.box (by decide) CMP (.slice a7 n7 c7)).sl encM); clear hb7 hS7 hs7 hg7)
            dsimp only [CMP] at HP0 HP2 HG
            revert HP0 HP2 HG
            generalize (w7.setCell ⟨w2.heap.size, 0, none⟩ (.func (.func 29) #[] #[])).setCell ⟨w2.heap.size, 1, none⟩ (.slice a7 n7 c7) = X7
            intro HP0 HP2 HG
            clear HS6 HAB6 k0 k1 d0 d1' d2' d3 HDU
            have d3 := HP2.out.c.2.2.2
            go_upto_region 26 with (go_at_call 11; refine (HRD.out _ _ HP0.out.2).mono ?_; rintro e w8 ⟨ar, cr, vr, rfl, hr8, hs8, hb8⟩; obtain ⟨⟨a8, n8, c8⟩, hx8⟩ := hs8.g.sl; have hx9 : vr = .slice a8 n8 c8 := hx8.symm; clear hx8; subst hx9; have HPUT := Lib.hid ((HP0.out.1.below hb8).st hs8); have HABZ := Lib.hid (HP2.out.below hb8); have HG8 := Lib.hid (HG.out.below hb8); have HR8 := Lib.hid hr8; clear hr8 hs8 hb8)
            clear d3 HP0 HP2 HG HRD
            go_wp2
            go_loopg [104] D (fun n v wz => ∃ j : Nat, j ≤ D ∧ n = D - j ∧ v = .int .i64 j ∧ Hid (Below w8.heap.size w8 wz))
            case atStart => exact ⟨0, Nat.zero_le _, rfl, rfl, Below.refl _ _⟩
            case round =>
              obtain ⟨j, hj, rfl, rfl, HB⟩ := hrel
              by_cases hjt : j < D
              · have hj50 : j < 50 := by have := HD50.out; omega
                obtain ⟨e, hx⟩ := some_atP (l := L.filter (dueP x.n)) (k := j) (by rw [← HDL.out]; exact hjt)
                have hy : ((L.filter (dueP x.n)).map keyL)[j]? = some (keyL e) := by rw [List.getElem?_map, hx]; rfl
                obtain ⟨bg, og, rfl, hcg, hlg, hmg⟩ := (HG8.out.below HB.out).at_ hjt
                obtain ⟨br, or_, rfl, hcr, hlr, hmr⟩ := (HR8.out.below HB.out).at_ hjt
                obtain ⟨e0, e1⟩ := at2 hcg hy
                obtain ⟨f0, f1, -⟩ := at3 hcr hx
                dsimp only [keyL] at e0 e1
                have hs := str_same e.q
                have HBD := Lib.hid HB.out.drew
                clear hcg hcr hx hy
                go_wp2_with fail
                go_region
                go_wp2
                go_roundg (D - (j + 1))
                case measure => omega
                case rel => exact ⟨j + 1, hjt, rfl, by go_num, HBD⟩
              · obtain rfl : j = D := by omega
                have HPUT' := Lib.hid (HPUT.out.below HB.out)
                have HABZ' := Lib.hid (HABZ.out.below HB.out)
                go_wp2_with fail
                go_meet
                exact ⟨_, _, HPUT', HABZ'⟩
            --ENDR2a
          by_cases r2' : x.d.tmod 5 = -2
          · skip
            --R2b
            have q1 : (x.d.tmod 5 == 1) = false := by simpa using r1
            have q1' : (x.d.tmod 5 == -1) = false := by simpa using r1'
            have q2 : (x.d.tmod 5 == 2) = false := by simpa using r2
            have q2' : (x.d.tmod 5 == -2) = true := by simpa using r2'
            clear r1 r1' r2 r2'
            obtain ⟨D, hD⟩ : ∃ D, D = (L.filter (dueP x.n)).length := ⟨_, rfl⟩
            have HDL := Lib.hid hD
            have HD50 : Hid (D ≤ 50) := by show _ ≤ _; have := HNL.out; have := List.length_filter_le (dueP x.n) L; omega
            clear hD
            have HDU := Lib.hid (fun sl W h => due_t x.n sl L (by have := HNL.out; omega) HS6.out.srt D HDL.out W h)
            have HRD := Lib.hid (fun sl W h => rdue_t x.n sl L (by have := HNL.out; omega) D HDL.out W h)
            have HLM : Hid (L.length + 1 ≤ (Ms ++ [L]).length) := by show _ ≤ _; rw [List.length_append, List.length_singleton]; have := HJ.out.len; omega
            have k0 : w6.cell? ⟨w2.heap.size, 0, none⟩ = some CMP := HS6.out.box.c0
            have k1 := HS6.out.box.c1
            go_upto_region 25 with (go_at_call 10; refine (HDU.out _ _ HS6.out.tab).mono ?_; rintro e w7 ⟨ag, cg, v7, rfl, hg7, hs7, hb7⟩; obtain ⟨⟨a7, n7, c7⟩, hx7⟩ := hs7.g.sl; have hx8 : v7 = .slice a7 n7 c7 := hx7.symm; clear hx7; subst hx8; have hS7 := HS6.out.below hb7; have g0 := hS7.box.c0; have g1 := hS7.box.c1; have g2 := hS7.box.f0; have g3 := hS7.box.f1; have HP0 := Lib.hid (hS7.duePut HLM.out hs7); have HP2 := Lib.hid (ab_set (z0 := CMP) (z1 := .slice a7 n7 c7) (HAB6.out.below hb7) hS7.box); have HG := Lib.hid ((hg7.set2 hS7.box (by decide) CMP (.slice a7 n7 c7)).sl encM); clear hb7 hS7 hs7 hg7)
            dsimp only [CMP] at HP0 HP2 HG
            revert HP0 HP2 HG
            generalize (w7.setCell ⟨w2.heap.size, 0, none⟩ (.func (.func 29) #[] #[])).setCell ⟨w2.heap.size, 1, none⟩ (.slice a7 n7 c7) = X7
            intro HP0 HP2 HG
            clear HS6 HAB6 k0 k1 d0 d1' d2' d3 HDU
            have d3 := HP2.out.c.2.2.2
            go_upto_region 26 with (go_at_call 11; refine (HRD.out _ _ HP0.out.2).mono ?_; rintro e w8 ⟨ar, cr, vr, rfl, hr8, hs8, hb8⟩; obtain ⟨⟨a8, n8, c8⟩, hx8⟩ := hs8.g.sl; have hx9 : vr = .slice a8 n8 c8 := hx8.symm; clear hx8; subst hx9; have HPUT := Lib.hid ((HP0.out.1.below hb8).st hs8); have HABZ := Lib.hid (HP2.out.below hb8); have HG8 := Lib.hid (HG.out.below hb8); have HR8 := Lib.hid hr8; clear hr8 hs8 hb8)
            clear d3 HP0 HP2 HG HRD
            go_wp2
            go_loopg [104] D (fun n v wz => ∃ j : Nat, j ≤ D ∧ n = D - j ∧ v = .int .i64 j ∧ Hid (Below w8.heap.size w8 wz))
            case atStart => exact ⟨0, Nat.zero_le _, rfl, rfl, Below.refl _ _⟩
            case round =>
              obtain ⟨j, hj, rfl, rfl, HB⟩ := hrel
              by_cases hjt : j < D
              · have hj50 : j < 50 := by have := HD50.out; omega
                obtain ⟨e, hx⟩ := some_atP (l := L.filter (dueP x.n)) (k := j) (by rw [← HDL.out]; exact hjt)
                have hy : ((L.filter (dueP x.n)).map keyL)[j]? = some (keyL e) := by rw [List.getElem?_map, hx]; rfl
                obtain ⟨bg, og, rfl, hcg, hlg, hmg⟩ := (HG8.out.below HB.out).at_ hjt
                obtain ⟨br, or_, rfl, hcr, hlr, hmr⟩ := (HR8.out.below HB.out).at_ hjt
                obtain ⟨e0, e1⟩ := at2 hcg hy
                obtain ⟨f0, f1, -⟩ := at3 hcr hx
                dsimp only [keyL] at e0 e1
                have hs := str_same e.q
                have HBD := Lib.hid HB.out.drew
                clear hcg hcr hx hy
                go_wp2_with fail
                go_region
                go_wp2
                go_roundg (D - (j + 1))
                case measure => omega
                case rel => exact ⟨j + 1, hjt, rfl, by go_num, HBD⟩
              · obtain rfl : j = D := by omega
                have HPUT' := Lib.hid (HPUT.out.below HB.out)
                have HABZ' := Lib.hid (HABZ.out.below HB.out)
                go_wp2_with fail
                go_meet
                exact ⟨_, _, HPUT', HABZ'⟩
            --ENDR2b
          by_cases r3 : x.d.tmod 5 = 3
          · skip
            --R3a
            have q1 : (x.d.tmod 5 == 1) = false := by simpa using r1
            have q1' : (x.d.tmod 5 == -1) = false := by simpa using r1'
            have q2 : (x.d.tmod 5 == 2) = false := by simpa using r2
            have q2' : (x.d.tmod 5 == -2) = false := by simpa using r2'
            have q3 : (x.d.tmod 5 == 3) = true := by simpa using r3
            clear r1 r1' r2 r2' r3
            have hmf : ∀ (fn : Fn) (first cap : Array Value) (w : World), (Instr.makeFunc fn first cap).run Try.prog w = .ok (.func fn first cap) w := fun _ _ _ _ => rfl
            have HKP := Lib.hid (fun sl W h hc => keep_t wr.heap.size x.n sl L (by have := HNL.out; omega) W h hc)
            have HLM : Hid (L.length + 1 ≤ (Ms ++ [L]).length) := by show _ ≤ _; rw [List.length_append, List.length_singleton]; have := HJ.out.len; omega
            have k0 : w6.cell? ⟨w2.heap.size, 0, none⟩ = some CMP := HS6.out.box.c0
            have k1 := HS6.out.box.c1
            go_upto_region 38 with (go_at_call 12; refine (HKP.out _ _ HS6.out.tab HAB6.out.c.2.2.2).mono ?_; rintro e w7 ⟨v7, rfl, hs7, hb7⟩; obtain ⟨⟨a7, n7, c7⟩, hx7⟩ := hs7.g.sl; have hx8 : v7 = .slice a7 n7 c7 := hx7.symm; clear hx7; subst hx8; have hS7 := HS6.out.below hb7; have g0 := hS7.box.c0; have g1 := hS7.box.c1; have g2 := hS7.box.f0; have g3 := hS7.box.f1; have HP0 := Lib.hid (hS7.keepPut HLM.out hs7); have HP2 := Lib.hid (ab_set (z0 := CMP) (z1 := .slice a7 n7 c7) (HAB6.out.below hb7) hS7.box); clear hb7 hS7 hs7)
            dsimp only [CMP] at HP0 HP2
            revert HP0 HP2
            generalize (w7.setCell ⟨w2.heap.size, 0, none⟩ (.func (.func 29) #[] #[])).setCell ⟨w2.heap.size, 1, none⟩ (.slice a7 n7 c7) = X7
            intro HP0 HP2
            have HLE : Hid (L.length ≤ 300) := by show _ ≤ _; have := HNL.out; omega
            clear HS6 HAB6 k0 k1 d0 d1' d2' d3 HKP
            go_wp2
            go_loopg [12, 132] L.length (fun n u v wz => ∃ j : Nat, j ≤ L.length ∧ n = L.length - j ∧ v = .int .i64 j ∧ Hid (RowG cL 3 45 wz X7.heap.size u ((L.take j).filter fun e => decide (e.id ≠ x.n))) ∧ Hid (Below X7.heap.size X7 wz))
            case atStart => exact ⟨0, Nat.zero_le _, rfl, rfl, RowG.nil _ _ _ _ _, Below.refl _ _⟩
            case round =>
              obtain ⟨j, hj, rfl, rfl, HR, HB⟩ := hrel
              by_cases hjt : j < L.length
              · have hj300 : j < 300 := by have := HLE.out; omega
                obtain ⟨e, hx⟩ := some_atP hjt
                obtain ⟨a, b', o', c', hv, hlc, _, ha0, ha, hcx⟩ := (HP0.out.2.below HB.out).g.get
                cases hv
                obtain rfl : a4 = some ⟨b', o', none⟩ := ha.resolve_left (fun h' => by have := ha0 h'; omega)
                obtain ⟨e0, e1, e2⟩ := at3 hcx hx
                have HT := Lib.hid (take_snoc hx)
                have hlf : ((L.take j).filter (fun e => decide (e.id ≠ x.n))).length ≤ 300000 := Nat.le_trans (List.length_filter_le _ _) (by rw [List.length_take]; have := HLE.out; omega)
                clear hcx ha0 ha hx
                have hN := fun o => ((HP2.out.below HB.out).below (below_alloc _ o)).c.2.2.2
                by_cases ht : e.id = x.n
                · have hti : ((e.id : Int) != (x.n : Int)) = false := by rw [bne_eq_false_iff_eq]; omega
                  have hs1 := snoc_skip (fun e => decide (e.id ≠ x.n)) e (L.take j) (by simpa using ht)
                  rw [← HT.out] at hs1
                  have H1 : Hid (∀ o, RowG cL 3 45 (wr.alloc o) X7.heap.size _ ((L.take (j + 1)).filter fun e => decide (e.id ≠ x.n))) := fun o => by rw [hs1]; exact HR.out.alloc o
                  have HB2 : Hid (∀ o, Below X7.heap.size X7 (wr.alloc o)) := fun o => on HB.out (Nat.le_refl _) (below_alloc _ o)
                  clear hs1 ht
                  go_wp2
                  go_roundg (L.length - (j + 1))
                  case measure => omega
                  case rel => exact ⟨j + 1, hjt, rfl, by have := HLE.out; go_num, H1.out _, HB2.out _⟩
                · have hti : ((e.id : Int) != (x.n : Int)) = true := by rw [bne_iff_ne]; omega
                  obtain ⟨v', wy, hrun, h1, -, -, h4⟩ := grow2 HB.out.size HR.out (RowG.nil _ _ _ _ _) (fun g h1 h2 => by simp [Value.ownBlock] at h2) hlf e
                  have hs1 := snoc_keep (fun e => decide (e.id ≠ x.n)) e (L.take j) (by simpa using ht)
                  rw [← HT.out] at hs1
                  rw [← hs1] at h1
                  have H1 := Lib.hid h1
                  have HB2 := Lib.hid (HB.out.trans h4)
                  obtain ⟨a2, n2, c2, rfl⟩ := h1.slice'
                  obtain ⟨ua, un, uc, hu⟩ := HR.out.slice'
                  subst hu
                  clear h1 h4 hs1 ht hlf
                  go_wp2_with (at_builtin; refine Lib.wpList_append_run _ rfl _ _ _ _ rfl _ _ rfl rfl _ _ hrun ?_)
                  go_roundg (L.length - (j + 1))
                  case measure => omega
                  case rel => exact ⟨j + 1, hjt, rfl, by have := HLE.out; go_num, H1, HB2⟩
              · obtain rfl : j = L.length := by omega
                rw [List.take_length] at HR
                have HPUT := Lib.hid ((HP0.out.1.below HB.out).st HR.out.slT)
                have HABZ := Lib.hid (HP2.out.below HB.out)
                go_wp2_with fail
                go_meet
                exact ⟨_, _, HPUT, HABZ⟩
            --ENDR3a
          by_cases r3' : x.d.tmod 5 = -3
          · skip
            --R3b
            have q1 : (x.d.tmod 5 == 1) = false := by simpa using r1
            have q1' : (x.d.tmod 5 == -1) = false := by simpa using r1'
            have q2 : (x.d.tmod 5 == 2) = false := by simpa using r2
            have q2' : (x.d.tmod 5 == -2) = false := by simpa using r2'
            have q3 : (x.d.tmod 5 == 3) = false := by simpa using r3
            have q3' : (x.d.tmod 5 == -3) = true := by simpa using r3'
            clear r1 r1' r2 r2' r3 r3'
            have hmf : ∀ (fn : Fn) (first cap : Array Value) (w : World), (Instr.makeFunc fn first cap).run Try.prog w = .ok (.func fn first cap) w := fun _ _ _ _ => rfl
            have HKP := Lib.hid (fun sl W h hc => keep_t wr.heap.size x.n sl L (by have := HNL.out; omega) W h hc)
            have HLM : Hid (L.length + 1 ≤ (Ms ++ [L]).length) := by show _ ≤ _; rw [List.length_append, List.length_singleton]; have := HJ.out.len; omega
            have k0 : w6.cell? ⟨w2.heap.size, 0, none⟩ = some CMP := HS6.out.box.c0
            have k1 := HS6.out.box.c1
            go_upto_region 38 with (go_at_call 12; refine (HKP.out _ _ HS6.out.tab HAB6.out.c.2.2.2).mono ?_; rintro e w7 ⟨v7, rfl, hs7, hb7⟩; obtain ⟨⟨a7, n7, c7⟩, hx7⟩ := hs7.g.sl; have hx8 : v7 = .slice a7 n7 c7 := hx7.symm; clear hx7; subst hx8; have hS7 := HS6.out.below hb7; have g0 := hS7.box.c0; have g1 := hS7.box.c1; have g2 := hS7.box.f0; have g3 := hS7.box.f1; have HP0 := Lib.hid (hS7.keepPut HLM.out hs7); have HP2 := Lib.hid (ab_set (z0 := CMP) (z1 := .slice a7 n7 c7) (HAB6.out.below hb7) hS7.box); clear hb7 hS7 hs7)
            dsimp only [CMP] at HP0 HP2
            revert HP0 HP2
            generalize (w7.setCell ⟨w2.heap.size, 0, none⟩ (.func (.func 29) #[] #[])).setCell ⟨w2.heap.size, 1, none⟩ (.slice a7 n7 c7) = X7
            intro HP0 HP2
            have HLE : Hid (L.length ≤ 300) := by show _ ≤ _; have := HNL.out; omega
            clear HS6 HAB6 k0 k1 d0 d1' d2' d3 HKP
            go_wp2
            go_loopg [12, 132] L.length (fun n u v wz => ∃ j : Nat, j ≤ L.length ∧ n = L.length - j ∧ v = .int .i64 j ∧ Hid (RowG cL 3 45 wz X7.heap.size u ((L.take j).filter fun e => decide (e.id ≠ x.n))) ∧ Hid (Below X7.heap.size X7 wz))
            case atStart => exact ⟨0, Nat.zero_le _, rfl, rfl, RowG.nil _ _ _ _ _, Below.refl _ _⟩
            case round =>
              obtain ⟨j, hj, rfl, rfl, HR, HB⟩ := hrel
              by_cases hjt : j < L.length
              · have hj300 : j < 300 := by have := HLE.out; omega
                obtain ⟨e, hx⟩ := some_atP hjt
                obtain ⟨a, b', o', c', hv, hlc, _, ha0, ha, hcx⟩ := (HP0.out.2.below HB.out).g.get
                cases hv
                obtain rfl : a4 = some ⟨b', o', none⟩ := ha.resolve_left (fun h' => by have := ha0 h'; omega)
                obtain ⟨e0, e1, e2⟩ := at3 hcx hx
                have HT := Lib.hid (take_snoc hx)
                have hlf : ((L.take j).filter (fun e => decide (e.id ≠ x.n))).length ≤ 300000 := Nat.le_trans (List.length_filter_le _ _) (by rw [List.length_take]; have := HLE.out; omega)
                clear hcx ha0 ha hx
                have hN := fun o => ((HP2.out.below HB.out).below (below_alloc _ o)).c.2.2.2
                by_cases ht : e.id = x.n
                · have hti : ((e.id : Int) != (x.n : Int)) = false := by rw [bne_eq_false_iff_eq]; omega
                  have hs1 := snoc_skip (fun e => decide (e.id ≠ x.n)) e (L.take j) (by simpa using ht)
                  rw [← HT.out] at hs1
                  have H1 : Hid (∀ o, RowG cL 3 45 (wr.alloc o) X7.heap.size _ ((L.take (j + 1)).filter fun e => decide (e.id ≠ x.n))) := fun o => by rw [hs1]; exact HR.out.alloc o
                  have HB2 : Hid (∀ o, Below X7.heap.size X7 (wr.alloc o)) := fun o => on HB.out (Nat.le_refl _) (below_alloc _ o)
                  clear hs1 ht
                  go_wp2
                  go_roundg (L.length - (j + 1))
                  case measure => omega
                  case rel => exact ⟨j + 1, hjt, rfl, by have := HLE.out; go_num, H1.out _, HB2.out _⟩
                · have hti : ((e.id : Int) != (x.n : Int)) = true := by rw [bne_iff_ne]; omega
                  obtain ⟨v', wy, hrun, h1, -, -, h4⟩ := grow2 HB.out.size HR.out (RowG.nil _ _ _ _ _) (fun g h1 h2 => by simp [Value.ownBlock] at h2) hlf e
                  have hs1 := snoc_keep (fun e => decide (e.id ≠ x.n)) e (L.take j) (by simpa using ht)
                  rw [← HT.out] at hs1
                  rw [← hs1] at h1
                  have H1 := Lib.hid h1
                  have HB2 := Lib.hid (HB.out.trans h4)
                  obtain ⟨a2, n2, c2, rfl⟩ := h1.slice'
                  obtain ⟨ua, un, uc, hu⟩ := HR.out.slice'
                  subst hu
                  clear h1 h4 hs1 ht hlf
                  go_wp2_with (at_builtin; refine Lib.wpList_append_run _ rfl _ _ _ _ rfl _ _ rfl rfl _ _ hrun ?_)
                  go_roundg (L.length - (j + 1))
                  case measure => omega
                  case rel => exact ⟨j + 1, hjt, rfl, by have := HLE.out; go_num, H1, HB2⟩
              · obtain rfl : j = L.length := by omega
                rw [List.take_length] at HR
                have HPUT := Lib.hid ((HP0.out.1.below HB.out).st HR.out.slT)
                have HABZ := Lib.hid (HP2.out.below HB.out)
                go_wp2_with fail
                go_meet
                exact ⟨_, _, HPUT, HABZ⟩
            --ENDR3b
          have HL := Lib.hid (fun sl W h => lend_t x.ln sl L (by have := HNL.out; omega) HS6.out.uni HS6.out.srt W h)
          have HRL := Lib.hid (fun sl W h => rlend_t x.ln sl L (by have := HNL.out; omega) W h)
          have q1 : (x.d.tmod 5 == 1) = false := by simpa using r1
          have q1' : (x.d.tmod 5 == -1) = false := by simpa using r1'
          have q2 : (x.d.tmod 5 == 2) = false := by simpa using r2
          have q2' : (x.d.tmod 5 == -2) = false := by simpa using r2'
          have q3 : (x.d.tmod 5 == 3) = false := by simpa using r3
          have q3' : (x.d.tmod 5 == -3) = false := by simpa using r3'
          clear r1 r1' r2 r2' r3 r3'
          go_wp2_with fail
          --R16
          refine wp_region_noPanic ?_
          refine wp_region_held_drew (S := (fun W' => W'.cell? ⟨wr.heap.size, 0, none⟩ = some (.int .i64 x.d) ∧ W'.cell? ⟨wr.heap.size, 1, none⟩ = some (.string (str x.q)) ∧ W'.cell? ⟨wr.heap.size, 2, none⟩ = some (.int .u64 x.id) ∧ W'.cell? ⟨wr.heap.size, 3, none⟩ = some (.int .u64 x.n) ∧ AB W' wr.heap.size x ∧ ∃ y0 y1, Boxed2 W' w2.heap.size 27 y0 y1)) (by kernel_rfl) (sx_first (W := w6.drew) (AB.below HAB6.out (below_drewT (Below.refl _ _) 1)) HCUR.out.box) (fun hHeld => ?_)
          refine wpAnyH_take (i := 1) (v := ?hv1R16) rfl (by kernel_rfl) (by kernel_rfl) (by kernel_rfl) (fun _ _ _ h => h) (Or.inl ⟨by rfl, ?hy1R16⟩) (by assumption) ?_
          case hy1R16 => (intro w hSw; (try dsimp only at hSw); (try simp only [List.getElem_toArray, List.getElem_cons_succ, List.getElem_cons_zero]); go_simp; (try with_reducible rfl))
          try simp only [Act.put, List.setIfInBounds_toArray, List.set_cons_zero, List.set_cons_succ, List.getElem_toArray, List.getElem_cons_succ, List.getElem_cons_zero]
          refine wpAnyH_take (i := 2) (v := ?hv2R16) rfl (by kernel_rfl) (by kernel_rfl) (by kernel_rfl) (fun _ _ _ h => h) (Or.inl ⟨by rfl, ?hy2R16⟩) (by assumption) ?_
          case hy2R16 => (intro w hSw; (try dsimp only at hSw); (try simp only [List.getElem_toArray, List.getElem_cons_succ, List.getElem_cons_zero]); go_simp; (try with_reducible rfl))
          try simp only [Act.put, List.setIfInBounds_toArray, List.set_cons_zero, List.set_cons_succ, List.getElem_toArray, List.getElem_cons_succ, List.getElem_cons_zero]
          refine wpAnyH_take (i := 3) (v := ?hv3R16) rfl (by kernel_rfl) (by kernel_rfl) (by kernel_rfl) (fun _ _ _ h => h) (Or.inl ⟨by rfl, ?hy3R16⟩) (by assumption) ?_
          case hy3R16 => (intro w hSw; (try dsimp only at hSw); (try simp only [List.getElem_toArray, List.getElem_cons_succ, List.getElem_cons_zero]); go_simp; (try with_reducible rfl))
          try simp only [Act.put, List.setIfInBounds_toArray, List.set_cons_zero, List.set_cons_succ, List.getElem_toArray, List.getElem_cons_succ, List.getElem_cons_zero]
          refine wpAnyH_take (i := 4) (v := ?hv4R16) rfl (by kernel_rfl) (by kernel_rfl) (by kernel_rfl) (fun _ _ _ h => h) (Or.inl ⟨by rfl, ?hy4R16⟩) (by assumption) ?_
          case hy4R16 => (intro w hSw; (try dsimp only at hSw); (try simp only [List.getElem_toArray, List.getElem_cons_succ, List.getElem_cons_zero]); go_simp; (try with_reducible rfl))
          try simp only [Act.put, List.setIfInBounds_toArray, List.set_cons_zero, List.set_cons_succ, List.getElem_toArray, List.getElem_cons_succ, List.getElem_cons_zero]
          refine wpAnyH_take (i := 6) (v := ?hv6R16) rfl (by kernel_rfl) (by kernel_rfl) (by kernel_rfl) (fun _ _ _ h => h) (Or.inl ⟨by rfl, ?hy6R16⟩) (by assumption) ?_
          case hy6R16 => (intro w hSw; (try dsimp only at hSw); (try simp only [List.getElem_toArray, List.getElem_cons_succ, List.getElem_cons_zero]); go_simp; (try with_reducible rfl))
          try simp only [Act.put, List.setIfInBounds_toArray, List.set_cons_zero, List.set_cons_succ, List.getElem_toArray, List.getElem_cons_succ, List.getElem_cons_zero]
          refine wpAnyH_take (i := 7) (v := ?hv7R16) rfl (by kernel_rfl) (by kernel_rfl) (by kernel_rfl) (fun _ _ _ h => h) (Or.inl ⟨by rfl, ?hy7R16⟩) (by assumption) ?_
          case hy7R16 => (intro w hSw; (try dsimp only at hSw); (try simp only [List.getElem_toArray, List.getElem_cons_succ, List.getElem_cons_zero]); go_simp; (try with_reducible rfl))
          try simp only [Act.put, List.setIfInBounds_toArray, List.set_cons_zero, List.set_cons_succ, List.getElem_toArray, List.getElem_cons_succ, List.getElem_cons_zero]
          refine wpAnyH_take (i := 8) (v := ?hv8R16) rfl (by kernel_rfl) (by kernel_rfl) (by kernel_rfl) (fun _ _ _ h => h) (Or.inl ⟨by rfl, ?hy8R16⟩) (by assumption) ?_
          case hy8R16 => (intro w hSw; (try dsimp only at hSw); (try simp only [List.getElem_toArray, List.getElem_cons_succ, List.getElem_cons_zero]); go_simp; (try with_reducible rfl))
          try simp only [Act.put, List.setIfInBounds_toArray, List.set_cons_zero, List.set_cons_succ, List.getElem_toArray, List.getElem_cons_succ, List.getElem_cons_zero]
          refine wpAnyH_take (i := 9) (v := ?hv9R16) rfl (by kernel_rfl) (by kernel_rfl) (by kernel_rfl) (fun _ _ _ h => h) (Or.inl ⟨by rfl, ?hy9R16⟩) (by assumption) ?_
          case hy9R16 => (intro w hSw; (try dsimp only at hSw); (try simp only [List.getElem_toArray, List.getElem_cons_succ, List.getElem_cons_zero]); go_simp; (try with_reducible rfl))
          try simp only [Act.put, List.setIfInBounds_toArray, List.set_cons_zero, List.set_cons_succ, List.getElem_toArray, List.getElem_cons_succ, List.getElem_cons_zero]
          refine wpAnyH_take (i := 10) (v := ?hv10R16) rfl (by kernel_rfl) (by kernel_rfl) (by kernel_rfl) (fun _ _ _ h => h) (Or.inl ⟨by rfl, ?hy10R16⟩) (by assumption) ?_
          case hy10R16 => (intro w hSw; (try dsimp only at hSw); (try simp only [List.getElem_toArray, List.getElem_cons_succ, List.getElem_cons_zero]); go_simp; (try with_reducible rfl))
          try simp only [Act.put, List.setIfInBounds_toArray, List.set_cons_zero, List.set_cons_succ, List.getElem_toArray, List.getElem_cons_succ, List.getElem_cons_zero]
          refine wpAnyH_take (i := 11) (v := ?hv11R16) rfl (by kernel_rfl) (by kernel_rfl) (by kernel_rfl) (fun _ _ _ h => h) (Or.inl ⟨by rfl, ?hy11R16⟩) (by assumption) ?_
          case hy11R16 => (intro w hSw; (try dsimp only at hSw); (try simp only [List.getElem_toArray, List.getElem_cons_succ, List.getElem_cons_zero]); go_simp; (try with_reducible rfl))
          try simp only [Act.put, List.setIfInBounds_toArray, List.set_cons_zero, List.set_cons_succ, List.getElem_toArray, List.getElem_cons_succ, List.getElem_cons_zero]
          refine wpAnyH_take (i := 12) (v := ?hv12R16) rfl (by kernel_rfl) (by kernel_rfl) (by kernel_rfl) (fun _ _ _ h => h) (Or.inl ⟨by rfl, ?hy12R16⟩) (by assumption) ?_
          case hy12R16 => (intro w hSw; (try dsimp only at hSw); (try simp only [List.getElem_toArray, List.getElem_cons_succ, List.getElem_cons_zero]); go_simp; (try with_reducible rfl))
          try simp only [Act.put, List.setIfInBounds_toArray, List.set_cons_zero, List.set_cons_succ, List.getElem_toArray, List.getElem_cons_succ, List.getElem_cons_zero]
          refine wpAnyH_take (i := 13) (v := ?hv13R16) rfl (by kernel_rfl) (by kernel_rfl) (by kernel_rfl) (fun _ _ _ h => h) (Or.inl ⟨by rfl, ?hy13R16⟩) (by assumption) ?_
          case hy13R16 => (intro w hSw; (try dsimp only at hSw); (try simp only [List.getElem_toArray, List.getElem_cons_succ, List.getElem_cons_zero]); go_simp; (try with_reducible rfl))
          try simp only [Act.put, List.setIfInBounds_toArray, List.set_cons_zero, List.set_cons_succ, List.getElem_toArray, List.getElem_cons_succ, List.getElem_cons_zero]
          refine wpAnyH_take (i := 14) (v := ?hv14R16) rfl (by kernel_rfl) (by kernel_rfl) (by kernel_rfl) (fun _ _ _ h => h) (Or.inl ⟨by rfl, ?hy14R16⟩) (by assumption) ?_
          case hy14R16 => (intro w hSw; (try dsimp only at hSw); (try simp only [List.getElem_toArray, List.getElem_cons_succ, List.getElem_cons_zero]); go_simp; (try with_reducible rfl))
          try simp only [Act.put, List.setIfInBounds_toArray, List.set_cons_zero, List.set_cons_succ, List.getElem_toArray, List.getElem_cons_succ, List.getElem_cons_zero]
          refine wpAnyH_take (i := 15) (v := ?hv15R16) rfl (by kernel_rfl) (by kernel_rfl) (by kernel_rfl) (fun _ _ _ h => h) (Or.inl ⟨by rfl, ?hy15R16⟩) (by assumption) ?_
          case hy15R16 => (intro w hSw; (try dsimp only at hSw); (try simp only [List.getElem_toArray, List.getElem_cons_succ, List.getElem_cons_zero]); go_simp; (try with_reducible rfl))
          try simp only [Act.put, List.setIfInBounds_toArray, List.set_cons_zero, List.set_cons_succ, List.getElem_toArray, List.getElem_cons_succ, List.getElem_cons_zero]
          refine wpAnyH_ready (rs := [0]) (by kernel_rfl) (by simp) ?_
          refine AllReadyH.cons rfl (fun K hK => ?_) AllReadyH.nil
          try simp only [List.getElem_toArray, List.getElem_cons_succ, List.getElem_cons_zero]
          go_simp
          refine hK.out _ _ ?hk0R16 (fun hHeld => ?_)
          case hk0R16 => (assumption)
          clear hK K
          try simp only [Act.put, List.setIfInBounds_toArray, List.set_cons_zero, List.set_cons_succ, List.getElem_toArray, List.getElem_cons_succ, List.getElem_cons_zero]
          refine wpAnyH_ready (rs := [5]) (by kernel_rfl) (by simp) ?_
          refine AllReadyH.cons rfl (fun K hK => ?_) AllReadyH.nil
          try simp only [List.getElem_toArray, List.getElem_cons_succ, List.getElem_cons_zero]
          go_simp
          (go_at_call 14; refine (HL.out _ _ HCUR.out.tab).mono ?_; rintro e wA ⟨vA, rfl, hsA, hb⟩; obtain ⟨aA, cA', rfl⟩ := hsA.g.slice; have HRA := Lib.hid hsA; have HCUR := Lib.hid (HCUR.out.below hb))
          refine hK.out _ _ ?hk5R16 (fun hHeld => ?_)
          case hk5R16 => (exact sx_step hHeld hb)
          clear hK K
          try simp only [Act.put, List.setIfInBounds_toArray, List.set_cons_zero, List.set_cons_succ, List.getElem_toArray, List.getElem_cons_succ, List.getElem_cons_zero]
          refine wpAnyH_ready (rs := [16]) (by kernel_rfl) (by simp) ?_
          refine AllReadyH.cons rfl (fun K hK => ?_) AllReadyH.nil
          try simp only [List.getElem_toArray, List.getElem_cons_succ, List.getElem_cons_zero]
          go_simp
          (go_at_call 15; refine (HRL.out _ _ HCUR.out.lst).mono ?_; rintro e wB ⟨vB, rfl, hsB, hb⟩; obtain ⟨aB, cB, rfl⟩ := hsB.g.slice; have HRB := Lib.hid hsB; have HRA := Lib.hid (HRA.out.below hb); have HCUR := Lib.hid (HCUR.out.below hb); have c0 := HCUR.out.box.c0; have c1 := HCUR.out.box.c1; have f0 := HCUR.out.box.f0; have f1 := HCUR.out.box.f1)
          refine hK.out _ _ ?hk16R16 (fun hHeld => ?_)
          case hk16R16 => (exact sx_step hHeld hb)
          clear hK K
          try simp only [Act.put, List.setIfInBounds_toArray, List.set_cons_zero, List.set_cons_succ, List.getElem_toArray, List.getElem_cons_succ, List.getElem_cons_zero]
          refine wpAnyH_ready (rs := [17]) (by kernel_rfl) (by simp) ?_
          refine AllReadyH.cons rfl (fun K hK => ?_) AllReadyH.nil
          try simp only [List.getElem_toArray, List.getElem_cons_succ, List.getElem_cons_zero]
          go_simp
          refine hK.out _ _ ?hk17R16 (fun hHeld => ?_)
          case hk17R16 => (exact sx_set hHeld)
          clear hK K
          try simp only [Act.put, List.setIfInBounds_toArray, List.set_cons_zero, List.set_cons_succ, List.getElem_toArray, List.getElem_cons_succ, List.getElem_cons_zero]
          refine wpAnyH_take (i := 18) (v := ?hv18R16) rfl (by kernel_rfl) (by kernel_rfl) (by kernel_rfl) (fun _ _ _ h => h) (Or.inl ⟨by rfl, ?hy18R16⟩) (by assumption) ?_
          case hy18R16 => (intro w hSw; (try dsimp only at hSw); (try simp only [List.getElem_toArray, List.getElem_cons_succ, List.getElem_cons_zero]); go_simp; (try with_reducible rfl))
          try simp only [Act.put, List.setIfInBounds_toArray, List.set_cons_zero, List.set_cons_succ, List.getElem_toArray, List.getElem_cons_succ, List.getElem_cons_zero]
          refine wpAnyH_done (by kernel_rfl) ?_ _
          refine NoPanic.normal ?_
          have HPUT := Lib.hid (HCUR.out.put HRA.out HRB.out ⟨(actL_ok x.ln HS6.out.srt HS6.out.uni).1, (actL_ok x.ln HS6.out.srt HS6.out.uni).2.1, by have h1 := (actL_ok x.ln HS6.out.srt HS6.out.uni).2.2; rw [List.length_append]; have h2 := HJ.out.len; simp; omega⟩)
          have HABZ := Lib.hid hHeld.2.2.2.2.1
          go_wp2_with fail
          go_meet
          exact ⟨_, _, HPUT, HABZ⟩
          --ENDR16
        case rest =>
          skip
          --RREST
          obtain ⟨L', sl', HS, HA8⟩ := hcut
          have HL51 : Hid (L'.length ≤ 51) := by show _ ≤ _; have := HS.out.len; have := HS.out.few; omega
          obtain ⟨aS, cS, hsl⟩ := HS.out.tab.g.slice
          subst hsl
          obtain ⟨aV, cV, hvl⟩ := HS.out.lst.g.slice
          subst hvl
          obtain ⟨U, hU⟩ : ∃ U, (untilR x.ln.q x.ln.id L').getD 0 = U := ⟨_, rfl⟩
          obtain ⟨BU, hBU⟩ : ∃ BU, (untilR x.ln.q x.ln.id L').isSome = BU := ⟨_, rfl⟩
          have HUT := Lib.hid (fun sl W h => until_t x.ln sl L' (by have := HL51.out; omega) HS.out.uni U BU hU hBU W h)
          have HRU := Lib.hid (fun sl W h => runtil_t x.ln sl L' (by have := HL51.out; omega) U BU hU hBU W h)
          have HRO := Lib.hid (fun sl W h => row_t sl L' (by have := HL51.out; omega) W h)
          have HSA := Lib.hid (fun s1 s2 W h h' => same_t s1 s2 L' (by have := HL51.out; omega) W h h')
          have HLE := Lib.hid (fun a n c W => len_t a n c W)
          have HKA := Lib.hid (fun sl W h => keepAll_n sl L' (by have := HL51.out; omega) W h)
          clear hU hBU HS6 HAB6
          have c0 := HS.out.box.c0
          have c1 := HS.out.box.c1
          obtain ⟨d0, d1, d2, d3⟩ := HA8.out.c
          go_upto_region 46 with (go_at_call 16; refine (HUT.out _ _ HS.out.tab).mono ?_; rintro e w9 ⟨rfl, hb⟩; have HS9 := Lib.hid (HS.out.below hb); have HA9 := Lib.hid (HA8.out.below hb); clear hb)
          clear c0 c1 d0 d1 d2 d3 HS HA8
          obtain ⟨d0, d1, d2, d3⟩ := HA9.out.c
          go_upto_region 47 with (go_at_call 17; refine (HRU.out _ _ HS9.out.lst).mono ?_; rintro e w10 ⟨rfl, hb⟩; have HS10 := Lib.hid (HS9.out.below hb); clear hb)
          clear d0 d1 d2 d3 HS9 HA9 HUT HRU
          have c0 := HS10.out.box.c0
          have c1 := HS10.out.box.c1
          go_wp2_with (first
            | (go_at_call 19; refine (HRO.out _ _ HS10.out.tab).mono ?_; rintro e w11 ⟨ar, cr, rfl, hr, hb⟩; have HR11 := Lib.hid hr; have HS11 := Lib.hid (HS10.out.below hb); clear hr hb)
            | (go_at_call 18; refine (HSA.out _ _ _ HR11.out HS11.out.lst).mono ?_; rintro e w12 ⟨rfl, hb⟩; have HS12 := Lib.hid (HS11.out.below hb); clear hb; have c0 := HS12.out.box.c0; have c1 := HS12.out.box.c1)
            | (go_at_call 12; refine (HKA.out _ _ HS13.out.tab).mono ?_; rintro e w14 ⟨ak, ck, rfl, hb⟩; have HS14 := Lib.hid (HS13.out.below hb); clear hb)
            | (go_at_call 20; refine (HLE.out _ _ _ _).mono ?_; rintro e w13 ⟨rfl, hb⟩; first | (have HS15 := Lib.hid (HS14.out.below hb); clear hb) | (have HS13 := Lib.hid (HS12.out.below hb); clear hb; have c0 := HS13.out.box.c0; have c1 := HS13.out.box.c1)))
          go_roundg (l.length - (k + 1))
          case measure => omega
          case rel => exact ⟨k + 1, L', Ms ++ [L], _, hlt, by rw [List.length_append, hMk]; rfl, rfl, by go_num, HS15⟩
          --ENDRREST
    · skip
      --REND
      obtain rfl : k = l.length := by omega
      obtain ⟨W0, hW0⟩ : ∃ W0, W0 = wr := ⟨_, rfl⟩
      subst hW0
      obtain ⟨s5, hs5, hE5⟩ := HJ.out.T
      obtain ⟨s6, hs6, hE6⟩ := HJ.out.P
      obtain ⟨M, hM⟩ : ∃ M, M = Ms.length := ⟨_, rfl⟩
      have h5 : s5.length = M := by rw [hM]; exact hE5.1
      have h6 : s6.length = M := by rw [hM]; exact hE6.1
      have HG5 := Lib.hid (hs5.sl encT)
      have HG6 := Lib.hid (hs6.sl encP)
      obtain ⟨a5, c5, hv5⟩ := hs5.slice
      obtain ⟨a6, c6, hv6⟩ := hs6.slice
      rw [h5] at hv5
      rw [h6] at hv6
      subst hv5 hv6
      have HE5 := Lib.hid hE5
      have HE6 := Lib.hid hE6
      have HBEL := Lib.hid HJ.out.bel
      have HM51 : Hid (M ≤ 51) := by show _ ≤ _; rw [hM]; exact HJ.out.few
      have HALL := Lib.hid HJ.out.all
      have HMM : Hid (M = Ms.length) := hM
      have H5 := Lib.hid h5
      have H6 := Lib.hid h6
      clear hs5 hs6 hE5 hE6 h5 h6 HJ hM
      go_wp2
      go_loopg [198] M (fun n v wz => ∃ j : Nat, j ≤ M ∧ n = M - j ∧ v = .int .i64 j ∧ Hid (Below W0.heap.size W0 wz))
      case atStart => exact ⟨0, Nat.zero_le _, rfl, rfl, Below.refl _ _⟩
      case round =>
        obtain ⟨j, hj, rfl, rfl, HB⟩ := hrel
        by_cases hjt : j < M
        · have hj51 : j < 51 := by have := HM51.out; omega
          obtain ⟨m, hm⟩ := some_atP (l := Ms) (k := j) (by rw [← HMM.out]; exact hjt)
          obtain ⟨x5, hx5⟩ := some_atP (l := s5) (k := j) (by rw [H5.out]; exact hjt)
          obtain ⟨x6, hx6⟩ := some_atP (l := s6) (k := j) (by rw [H6.out]; exact hjt)
          obtain ⟨b5, o5, rfl, hc5, hl5, hk5⟩ := (HG5.out.below HB.out).at_ hjt
          obtain ⟨b6, o6, rfl, hc6, hl6, hk6⟩ := (HG6.out.below HB.out).at_ hjt
          have hT := (HE5.out.2 j x5 m hx5 hm).below HB.out
          have hP := (HE6.out.2 j x6 m hx6 hm).below HB.out
          have u0 := hc5 j x5 hx5 0 _ rfl
          have u1 := hc5 j x5 hx5 1 _ rfl
          have u2 := hc6 j x6 hx6 0 _ rfl
          have hm60 : m.length ≤ 60 := HALL.out m (List.mem_of_getElem? hm)
          obtain ⟨y5, n5, z5⟩ := x5
          obtain ⟨y6, n6, z6⟩ := x6
          dsimp only [Sl.v] at u1 u2 hT hP
          rw [Nat.add_zero] at u0 u2
          rw [Nat.mul_one] at u2
          have HRO := Lib.hid (fun W h => row_t (.slice y5 n5 z5) m (by omega) W h)
          have HSA := Lib.hid (fun s1 W h h' => same_t s1 (.slice y6 n6 z6) m (by omega) W h h')
          have HS0 := Lib.hid (se_step ⟨u0, u1, u2, hT, hP, HB.out⟩ (below_drewT (Below.refl _ _) 1))
          clear hc5 hc6 hT hP hm hx5 hx6 hm60
          go_wp2_with fail
          go_region_held3 (fun w' => w'.cell? ⟨b5, o5 + j * 2, none⟩ = some CMP ∧ w'.cell? ⟨b5, o5 + j * 2 + 1, none⟩ = some (.slice y5 n5 z5) ∧ w'.cell? ⟨b6, o6 + j, none⟩ = some (.slice y6 n6 z6) ∧ SlT 80 w' (.slice y5 n5 z5) m ∧ SlT 45 w' (.slice y6 n6 z6) m ∧ Below W0.heap.size W0 w')
            (first | with_reducible assumption | exact HS0.out | (with_reducible exact se_step ‹_› hb) | exact se_step ‹_› hb)
            (first
            | (go_at_call 19; refine (HRO.out _ (se_row (by assumption))).mono ?_; rintro e wA ⟨ar, cr, rfl, hr, hb⟩; have HR := Lib.hid hr)
            | (go_at_call 18; refine (HSA.out _ _ HR.out (se_lst (by assumption))).mono ?_; rintro e wB ⟨rfl, hb⟩))
          have HBF := Lib.hid (se_end (W := wB) ‹_› (Below.refl _ _))
          go_wp2
          go_roundg (M - (j + 1))
          case measure => omega
          case rel => exact ⟨j + 1, hjt, rfl, by go_num, HBF⟩
        · go_wp2
          go_ret
          exact ⟨rfl, on HBEL.out (Nat.le_refl _) HB.out⟩
      --ENDREND
end Go.Proofs.Ytpgaepilnbjhbaa
