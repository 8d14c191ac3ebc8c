/- PoolSets: the law's walk. -/
import Derived.Test.YtdkkcogjkeonkaaUxTop
import Derived.Deep.LoopGhost
import Derived.Deep.DeepCutAuto
import Derived.Deep.CutRange
import Derived.Deep.CutBlock
import Derived.Deep.RegionHeld3
import Derived.BigQuiet
set_option maxRecDepth 100000
set_option maxHeartbeats 4000000
set_option linter.unusedVariables false
namespace Go.Proofs.Ytdkkcogjkeonkaa
open Go.RowKit Go.Sort
open Tx (Rise Ord above)
attribute [local go_sem] Oper.semAt_some
/-- Acts that are handed in. -/
def SlA (w : World) (v : Value) (l : List (Int × Nat)) : Prop :=
  ∃ (a : Option Addr) (b o c : Nat), v = .slice a l.length c ∧ (l.length = 0 ∨ a = some ⟨b, o, none⟩) ∧ ∀ (j : Nat) x, l[j]? = some x → w.cell? ⟨b, o + j * 2, none⟩ = some (.int .i64 x.1) ∧ w.cell? ⟨b, o + j * 2 + 1, none⟩ = some (.int .u32 x.2)
theorem SlA.below {w w' : World} {v : Value} {l : List (Int × Nat)} (h : SlA w v l) (hb : Go.RowKit.Below w.heap.size w w') : SlA w' v l := by
  obtain ⟨a, b, o, c, hv, ha, hx⟩ := h
  exact ⟨a, b, o, c, hv, ha, fun j x hj => ⟨cellB hb (hx j x hj).1, cellB hb (hx j x hj).2⟩⟩
theorem SlA.slice {w : World} {v : Value} {l : List (Int × Nat)} (h : SlA w v l) : ∃ a c, v = .slice a l.length c := by
  obtain ⟨a, _, _, c, rfl, _⟩ := h
  exact ⟨a, c, rfl⟩
set_option linter.unusedSimpArgs false in
set_option maxHeartbeats 40000000 in
set_option maxRecDepth 100000 in
theorem sets_walk (v0 v1 : Value) (l : List Nat) (sc : List (Int × Nat)) (from_ : Nat) (w : World) (h0 : SlV w v0 l) (h1 : SlA w v1 sc) :
    Calls Try.prog 3 #[v0, v1, .int .u32 from_] w fun e W' => e = .returned (.bool true) ∧ Go.RowKit.Below w.heap.size w W' := by
  have HV0 := Lib.hid h0
  have HV1 := Lib.hid h1
  obtain ⟨a0, c0, rfl⟩ := h0.slice
  obtain ⟨a1, c1, rfl⟩ := h1.slice
  have HA := Lib.hid (fun w => plawake_any w)
  clear h0 h1
  by_cases hl : 60 < l.length
  · have hz : (60 : Int) < (l.length : Int) := by omega
    go_enter Try.func3, Try.ntmps3
    go_wp2_with (go_at_call 4; (with_reducible refine (HA.out _).mono ?_); rintro e w1 ⟨rfl, hb1⟩; have HB1 := Lib.hid hb1; clear hb1)
    go_ret
    exact ⟨rfl, HB1.out⟩
  have hlz : decide ((60 : Int) < (l.length : Int)) = false := decide_eq_false (by omega)
  by_cases hs : 60 < sc.length
  · have hz : (60 : Int) < (sc.length : Int) := by omega
    go_enter Try.func3, Try.ntmps3
    go_wp2_with (go_at_call 4; (with_reducible refine (HA.out _).mono ?_); rintro e w1 ⟨rfl, hb1⟩; have HB1 := Lib.hid hb1; clear hb1)
    go_ret
    exact ⟨rfl, HB1.out⟩
  have hsz : decide ((60 : Int) < (sc.length : Int)) = false := decide_eq_false (by omega)
  have hl60 : l.length ≤ 60 := by omega
  have hs60 : sc.length ≤ 60 := by omega
  clear hl hs
  go_enter Try.func3, Try.ntmps3
  go_upto_region 6 with (first
    | (go_at_call 4; (with_reducible refine (HA.out _).mono ?_); rintro e w1 ⟨rfl, hb1⟩; have HB1 := Lib.hid hb1; have HV01 := Lib.hid (HV0.out.below rfl hb1); clear hb1)
    | (go_at_call 5; refine (uxOf2_any _ l (by omega) _ HV01.out).mono ?_; rintro e w2 ⟨p, v, rfl, hp, hset, hb2⟩; have HP := Lib.hid hp; have HSET := Lib.hid hset; have HB2 := Lib.hid hb2; have HV02 := Lib.hid (HV01.out.below rfl hb2); clear hp hset hb2)
    | (go_at_call 6; refine (psOf_any _ l (by omega) _ HV02.out).mono ?_; rintro e w3 ⟨q, rfl, hq, hb3⟩; have HQ := Lib.hid hq; have HB3 := Lib.hid hb3; clear hq hb3))
  have HLS : Hid (LS w1 w3 p v q (ddV l) (ddV l)) := ⟨HSET.out.below HB3.out, HP.out, by have := HQ.out; rw [of_dd] at this; exact RowP.base (enc := eV) (t := 24) this HB2.out.size, fun e => by have h1 := (RowP.lt (enc := eV) (t := 24) HQ.out e).2; have h2 := HSET.out.lt; omega, fun k hk e => by have h1 := (RowP.lt (enc := eV) (t := 24) HQ.out hk).2; have h2 := (HSET.out.row.lt e).1; omega, HB2.out.trans (HB3.out.mono HB2.out.size)⟩
  have HDL : Hid ((ddV l).length ≤ 60) := Nat.le_trans (ddV_len l) hl60
  generalize ddV l = L0 at HLS HDL
  clear HSET HQ HB2 HB3 HV02 HV01 HP
  go_wp2
  go_loopg [8, 34] sc.length (fun n s8 s34 X => ∃ (k : Nat) (v : Value) (L : List Nat), s34 = .int .i64 k ∧ k ≤ sc.length ∧ n = sc.length - k ∧ L.length ≤ 60 + k ∧ Hid (LS w1 X p v s8 L L))
  case atStart => exact ⟨0, _, _, rfl, Nat.zero_le _, rfl, HDL.out, HLS⟩
  case round =>
    clear HLS
    obtain ⟨k, v, L, rfl, hk, rfl, hL, HS⟩ := hrel
    by_cases hkt : k < sc.length
    · obtain ⟨x, hx⟩ := some_atP hkt
      have HBW : Hid (Go.RowKit.Below w.heap.size w wr) := HB1.out.trans (HS.out.bel.mono HB1.out.size)
      obtain ⟨b, o, hc0, hc1, hab⟩ : ∃ b o, wr.cell? ⟨b, o + k * 2, none⟩ = some (.int .i64 x.1) ∧ wr.cell? ⟨b, o + k * 2 + 1, none⟩ = some (.int .u32 x.2) ∧ a1 = some ⟨b, o, none⟩ := by
        obtain ⟨a, b, o, c, hv, ha, hcx⟩ := HV1.out.below HBW.out
        cases hv
        exact ⟨b, o, (hcx k x hx).1, (hcx k x hx).2, ha.resolve_left (fun h' => by omega)⟩
      subst hab
      obtain ⟨d, y⟩ := x
      dsimp only at hc0 hc1
      obtain ⟨aq, cq, hq⟩ := HS.out.row.slice
      subst hq
      have HS1 := Lib.hid (HS.out.below ((Go.RowKit.Below.refl _ wr).alloc (Nat.le_refl _) (.cells #[.int .i64 d, .int .u32 y] 30)))
      have HA1 : Hid (AS (wr.alloc (.cells #[.int .i64 d, .int .u32 y] 30)) wr.heap.size p v d y) := ⟨heap_alloc_new wr _, by have := HS.out.set.lt; omega, fun e => by have := (HS.out.set.row.lt e).1; omega⟩
      have hd0 := HA1.out.1.c.1
      have hd1 := HA1.out.1.c.2
      have hk60 : k < 60 := by omega
      go_upto_block 2 with fail
      revert HS1 HA1 hd0 hd1
      generalize (wr.alloc (.cells #[.int .i64 d, .int .u32 y] 30)) = X1
      intro HS1 HA1 hd0 hd1
      go_cut [8] (fun s8 wx => ∃ (v' : Value) (L' : List Nat), Hid (LS w1 wx p v' s8 L' L') ∧ Hid (AS wx wr.heap.size p v' d y) ∧ L'.length ≤ 60 + k + 1)
      case first =>
        have HSD := Lib.hid (HS1.out.below (below_drewV (Go.RowKit.Below.refl _ X1) 1))
        have HAD := Lib.hid (HA1.out.below (below_drewV (Go.RowKit.Below.refl _ X1) 1))
        by_cases r0 : d.tmod 3 = 0
        · have q0 : (d.tmod 3 == 0) = true := by simpa using r0
          clear r0
          cases hbm : decide (y ∈ L) with
          | true =>
            have HADD := Lib.hid (uxAdd2_any HSD.out.set (by omega) HSD.out.bel.size y)
            have HHAS := Lib.hid (fun W h => rHas_any (.slice aq L.length cq) L y (by omega) W h)
            rw [hbm] at HADD HHAS
            clear hbm
            go_wp2_with fail
            go_region_held3 (fun X => X.cell? ⟨wr.heap.size, 1, none⟩ = some (.int .u32 y))
              (first | with_reducible assumption | exact HAD.out.1.c.2 | exact HA5.out.1.c.2)
              (first
              | (go_at_call 7; refine HADD.out.mono ?_; rintro e w5 ⟨rfl, v5, L5, hs5, ha5, hk5, ho5⟩; have HS5 := Lib.hid (HSD.out.put hs5 hk5 ho5); have HA5 := Lib.hid (HAD.out.put hk5 ho5); have HL5 := Lib.hid (add_with HSD.out.set.rise ha5); clear hs5 hk5 ho5 ha5)
              | (go_at_call 8; refine (HHAS.out _ HS5.out.row.sl).mono ?_; rintro e w6 ⟨rfl, rfl⟩))
            have hd1 := HA5.out.1.c.2
            go_wp2_with (go_at_call 9; refine (psWith_any _ L y (by omega) _ HS5.out.row.sl).mono ?_; rintro e w7 ⟨q7, rfl, hr7, hb7⟩; have HS7 := Lib.hid (HS5.out.doc hr7 hb7); have HA7 := Lib.hid (HA5.out.below hb7); clear hr7 hb7)
            go_meet
            rw [HL5.out] at HS7
            exact ⟨v5, Ps.withL L y, HS7, HA7, by have := Ps.withL_len L y; omega⟩
          | false =>
            have HADD := Lib.hid (uxAdd2_any HSD.out.set (by omega) HSD.out.bel.size y)
            have HHAS := Lib.hid (fun W h => rHas_any (.slice aq L.length cq) L y (by omega) W h)
            rw [hbm] at HADD HHAS
            clear hbm
            go_wp2_with fail
            go_region_held3 (fun X => X.cell? ⟨wr.heap.size, 1, none⟩ = some (.int .u32 y))
              (first | with_reducible assumption | exact HAD.out.1.c.2 | exact HA5.out.1.c.2)
              (first
              | (go_at_call 7; refine HADD.out.mono ?_; rintro e w5 ⟨rfl, v5, L5, hs5, ha5, hk5, ho5⟩; have HS5 := Lib.hid (HSD.out.put hs5 hk5 ho5); have HA5 := Lib.hid (HAD.out.put hk5 ho5); have HL5 := Lib.hid (add_with HSD.out.set.rise ha5); clear hs5 hk5 ho5 ha5)
              | (go_at_call 8; refine (HHAS.out _ HS5.out.row.sl).mono ?_; rintro e w6 ⟨rfl, rfl⟩))
            have hd1 := HA5.out.1.c.2
            go_wp2_with (go_at_call 9; refine (psWith_any _ L y (by omega) _ HS5.out.row.sl).mono ?_; rintro e w7 ⟨q7, rfl, hr7, hb7⟩; have HS7 := Lib.hid (HS5.out.doc hr7 hb7); have HA7 := Lib.hid (HA5.out.below hb7); clear hr7 hb7)
            go_meet
            rw [HL5.out] at HS7
            exact ⟨v5, Ps.withL L y, HS7, HA7, by have := Ps.withL_len L y; omega⟩
        · have q0 : (d.tmod 3 == 0) = false := by simpa using r0
          by_cases r1 : d.tmod 3 = 1
          · have q1 : (d.tmod 3 == 1) = true := by simpa using r1
            clear r0 r1
            cases hbm : decide (y ∈ L) with
            | true =>
              have HADD := Lib.hid (uxRem2_any HSD.out.set (by omega) y)
              have HHAS := Lib.hid (fun W h => rHas_any (.slice aq L.length cq) L y (by omega) W h)
              rw [hbm] at HADD HHAS
              clear hbm
              go_wp2_with fail
              go_region_held3 (fun X => X.cell? ⟨wr.heap.size, 1, none⟩ = some (.int .u32 y))
                (first | with_reducible assumption | exact HAD.out.1.c.2 | exact HA5.out.1.c.2)
                (first
                | (go_at_call 10; refine HADD.out.mono ?_; rintro e w5 ⟨rfl, v5, L5, hs5, ha5, hk5, ho5⟩; have HS5 := Lib.hid (HSD.out.put hs5 hk5 ho5); have HA5 := Lib.hid (HAD.out.put hk5 ho5); have HL5 := Lib.hid (rem_without HSD.out.set.rise ha5); clear hs5 hk5 ho5 ha5)
                | (go_at_call 8; refine (HHAS.out _ HS5.out.row.sl).mono ?_; rintro e w6 ⟨rfl, rfl⟩))
              have hd1 := HA5.out.1.c.2
              go_wp2_with (go_at_call 11; refine (psWithout_any _ L y (by omega) _ HS5.out.row.sl).mono ?_; rintro e w7 ⟨q7, rfl, hr7, hb7⟩; have HS7 := Lib.hid (HS5.out.doc hr7 hb7); have HA7 := Lib.hid (HA5.out.below hb7); clear hr7 hb7)
              go_meet
              rw [HL5.out] at HS7
              exact ⟨v5, Ps.without L y, HS7, HA7, by have := Ps.without_len L y; omega⟩
            | false =>
              have HADD := Lib.hid (uxRem2_any HSD.out.set (by omega) y)
              have HHAS := Lib.hid (fun W h => rHas_any (.slice aq L.length cq) L y (by omega) W h)
              rw [hbm] at HADD HHAS
              clear hbm
              go_wp2_with fail
              go_region_held3 (fun X => X.cell? ⟨wr.heap.size, 1, none⟩ = some (.int .u32 y))
                (first | with_reducible assumption | exact HAD.out.1.c.2 | exact HA5.out.1.c.2)
                (first
                | (go_at_call 10; refine HADD.out.mono ?_; rintro e w5 ⟨rfl, v5, L5, hs5, ha5, hk5, ho5⟩; have HS5 := Lib.hid (HSD.out.put hs5 hk5 ho5); have HA5 := Lib.hid (HAD.out.put hk5 ho5); have HL5 := Lib.hid (rem_without HSD.out.set.rise ha5); clear hs5 hk5 ho5 ha5)
                | (go_at_call 8; refine (HHAS.out _ HS5.out.row.sl).mono ?_; rintro e w6 ⟨rfl, rfl⟩))
              have hd1 := HA5.out.1.c.2
              go_wp2_with (go_at_call 11; refine (psWithout_any _ L y (by omega) _ HS5.out.row.sl).mono ?_; rintro e w7 ⟨q7, rfl, hr7, hb7⟩; have HS7 := Lib.hid (HS5.out.doc hr7 hb7); have HA7 := Lib.hid (HA5.out.below hb7); clear hr7 hb7)
              go_meet
              rw [HL5.out] at HS7
              exact ⟨v5, Ps.without L y, HS7, HA7, by have := Ps.without_len L y; omega⟩
          · have q1 : (d.tmod 3 == 1) = false := by simpa using r1
            by_cases r2 : d.tmod 3 = -1
            · have q2 : (d.tmod 3 == -1) = true := by simpa using r2
              clear r0 r1 r2
              cases hbm : decide (y ∈ L) with
              | true =>
                have HADD := Lib.hid (uxRem2_any HSD.out.set (by omega) y)
                have HHAS := Lib.hid (fun W h => rHas_any (.slice aq L.length cq) L y (by omega) W h)
                rw [hbm] at HADD HHAS
                clear hbm
                go_wp2_with fail
                go_region_held3 (fun X => X.cell? ⟨wr.heap.size, 1, none⟩ = some (.int .u32 y))
                  (first | with_reducible assumption | exact HAD.out.1.c.2 | exact HA5.out.1.c.2)
                  (first
                  | (go_at_call 10; refine HADD.out.mono ?_; rintro e w5 ⟨rfl, v5, L5, hs5, ha5, hk5, ho5⟩; have HS5 := Lib.hid (HSD.out.put hs5 hk5 ho5); have HA5 := Lib.hid (HAD.out.put hk5 ho5); have HL5 := Lib.hid (rem_without HSD.out.set.rise ha5); clear hs5 hk5 ho5 ha5)
                  | (go_at_call 8; refine (HHAS.out _ HS5.out.row.sl).mono ?_; rintro e w6 ⟨rfl, rfl⟩))
                have hd1 := HA5.out.1.c.2
                go_wp2_with (go_at_call 11; refine (psWithout_any _ L y (by omega) _ HS5.out.row.sl).mono ?_; rintro e w7 ⟨q7, rfl, hr7, hb7⟩; have HS7 := Lib.hid (HS5.out.doc hr7 hb7); have HA7 := Lib.hid (HA5.out.below hb7); clear hr7 hb7)
                go_meet
                rw [HL5.out] at HS7
                exact ⟨v5, Ps.without L y, HS7, HA7, by have := Ps.without_len L y; omega⟩
              | false =>
                have HADD := Lib.hid (uxRem2_any HSD.out.set (by omega) y)
                have HHAS := Lib.hid (fun W h => rHas_any (.slice aq L.length cq) L y (by omega) W h)
                rw [hbm] at HADD HHAS
                clear hbm
                go_wp2_with fail
                go_region_held3 (fun X => X.cell? ⟨wr.heap.size, 1, none⟩ = some (.int .u32 y))
                  (first | with_reducible assumption | exact HAD.out.1.c.2 | exact HA5.out.1.c.2)
                  (first
                  | (go_at_call 10; refine HADD.out.mono ?_; rintro e w5 ⟨rfl, v5, L5, hs5, ha5, hk5, ho5⟩; have HS5 := Lib.hid (HSD.out.put hs5 hk5 ho5); have HA5 := Lib.hid (HAD.out.put hk5 ho5); have HL5 := Lib.hid (rem_without HSD.out.set.rise ha5); clear hs5 hk5 ho5 ha5)
                  | (go_at_call 8; refine (HHAS.out _ HS5.out.row.sl).mono ?_; rintro e w6 ⟨rfl, rfl⟩))
                have hd1 := HA5.out.1.c.2
                go_wp2_with (go_at_call 11; refine (psWithout_any _ L y (by omega) _ HS5.out.row.sl).mono ?_; rintro e w7 ⟨q7, rfl, hr7, hb7⟩; have HS7 := Lib.hid (HS5.out.doc hr7 hb7); have HA7 := Lib.hid (HA5.out.below hb7); clear hr7 hb7)
                go_meet
                rw [HL5.out] at HS7
                exact ⟨v5, Ps.without L y, HS7, HA7, by have := Ps.without_len L y; omega⟩
            · have q2 : (d.tmod 3 == -1) = false := by simpa using r2
              clear r0 r1 r2
              go_wp2_with fail
              go_meet
              exact ⟨v, L, HS1, HA1, by omega⟩
      case rest =>
        obtain ⟨v', L', HS2, HA2, hL'⟩ := hcut
        clear HS1 HA1 hd0 hd1
        have hd1 := HA2.out.1.c.2
        obtain ⟨aq2, cq2, hq2⟩ := HS2.out.row.slice
        subst hq2
        go_upto_region 20 with (go_at_call 12; refine (uxLeast_any HS2.out.set).mono ?_; rintro e w8 ⟨rfl, rfl⟩)
        cases L' with
        | nil =>
          dsimp only [fstV]
          have HH := Lib.hid (fun W (hW : ∃ q, W = wc.drewN q) => by obtain ⟨q, rfl⟩ := hW; exact sHas_any (HS2.out.set.drewN q) (by omega) y : ∀ W, (∃ q, W = wc.drewN q) → Calls Try.prog 13 #[.pointer (some ⟨p, 0, none⟩), .int .u32 y] W fun e w' => e = .returned (.bool (decide (y ∈ ([] : List Nat)))) ∧ W = w')
          have HR := Lib.hid (fun W (hW : ∃ q, W = wc.drewN q) => by obtain ⟨q, rfl⟩ := hW; exact rHas_any (.slice aq2 ([] : List Nat).length cq2) ([] : List Nat) y (by omega) _ (HS2.out.below (below_drewV (Go.RowKit.Below.refl _ wc) q)).row.sl : ∀ W, (∃ q, W = wc.drewN q) → Calls Try.prog 8 #[(.slice aq2 ([] : List Nat).length cq2), .int .u32 y] W fun e w' => e = .returned (.bool (decide (y ∈ ([] : List Nat)))) ∧ W = w')
          have HN := Lib.hid (fun W (hW : ∃ q, W = wc.drewN q) => by obtain ⟨q, rfl⟩ := hW; exact uxLen_any (HS2.out.set.drewN q) : ∀ W, (∃ q, W = wc.drewN q) → Calls Try.prog 14 #[.pointer (some ⟨p, 0, none⟩)] W fun e w' => e = .returned (.int .i64 ((([] : List Nat)).length : Nat)) ∧ W = w')
          generalize decide (y ∈ ([] : List Nat)) = bm at HH HR
          go_quiet (first
            | (go_at_call 13; refine Calls.quiet_of_same ((HH.out _ (by first | exact ⟨0, rfl⟩ | exact ⟨1, rfl⟩ | exact ⟨_, rfl⟩)).mono fun _ _ h => ⟨h.1, h.2.symm⟩))
            | (go_at_call 8; refine Calls.quiet_of_same ((HR.out _ (by first | exact ⟨0, rfl⟩ | exact ⟨1, rfl⟩ | exact ⟨_, rfl⟩)).mono fun _ _ h => ⟨h.1, h.2.symm⟩))
            | (go_at_call 14; refine Calls.quiet_of_same ((HN.out _ (by first | exact ⟨0, rfl⟩ | exact ⟨1, rfl⟩ | exact ⟨_, rfl⟩)).mono fun _ _ h => ⟨h.1, h.2.symm⟩)))
          go_wp2
          go_roundg (sc.length - (k + 1))
          case measure => omega
          case rel => exact ⟨k + 1, v', _, by go_num, hkt, rfl, by omega, HS2.out.below (below_drewV (Go.RowKit.Below.refl _ wc) nq)⟩
        | cons z t =>
          obtain ⟨gq, capq, hgq, hcz⟩ : ∃ gq capq, (Value.slice aq2 (z :: t).length cq2) = .slice (some ⟨gq, 0, none⟩) (z :: t).length capq ∧ wc.cell? ⟨gq, 0, none⟩ = some (.int .u32 z) := by
            rcases HS2.out.row.open with ⟨_, h⟩ | ⟨g, cap, _, h, _⟩
            · cases h
            · exact ⟨g, cap, h, ((HS2.out.row.cells h).2 0 z rfl).1⟩
          cases hgq
          dsimp only [fstV]
          have HH := Lib.hid (fun W (hW : ∃ q, W = wc.drewN q) => by obtain ⟨q, rfl⟩ := hW; exact sHas_any (HS2.out.set.drewN q) (by omega) y : ∀ W, (∃ q, W = wc.drewN q) → Calls Try.prog 13 #[.pointer (some ⟨p, 0, none⟩), .int .u32 y] W fun e w' => e = .returned (.bool (decide (y ∈ (z :: t)))) ∧ W = w')
          have HR := Lib.hid (fun W (hW : ∃ q, W = wc.drewN q) => by obtain ⟨q, rfl⟩ := hW; exact rHas_any (.slice (some ⟨gq, 0, none⟩) (z :: t).length cq2) (z :: t) y (by omega) _ (HS2.out.below (below_drewV (Go.RowKit.Below.refl _ wc) q)).row.sl : ∀ W, (∃ q, W = wc.drewN q) → Calls Try.prog 8 #[(.slice (some ⟨gq, 0, none⟩) (z :: t).length cq2), .int .u32 y] W fun e w' => e = .returned (.bool (decide (y ∈ (z :: t)))) ∧ W = w')
          have HN := Lib.hid (fun W (hW : ∃ q, W = wc.drewN q) => by obtain ⟨q, rfl⟩ := hW; exact uxLen_any (HS2.out.set.drewN q) : ∀ W, (∃ q, W = wc.drewN q) → Calls Try.prog 14 #[.pointer (some ⟨p, 0, none⟩)] W fun e w' => e = .returned (.int .i64 (((z :: t)).length : Nat)) ∧ W = w')
          generalize decide (y ∈ (z :: t)) = bm at HH HR
          have htl : t.length ≤ 200 := by simp at hL'; omega
          go_quiet (first
            | (go_at_call 13; refine Calls.quiet_of_same ((HH.out _ (by first | exact ⟨0, rfl⟩ | exact ⟨1, rfl⟩ | exact ⟨_, rfl⟩)).mono fun _ _ h => ⟨h.1, h.2.symm⟩))
            | (go_at_call 8; refine Calls.quiet_of_same ((HR.out _ (by first | exact ⟨0, rfl⟩ | exact ⟨1, rfl⟩ | exact ⟨_, rfl⟩)).mono fun _ _ h => ⟨h.1, h.2.symm⟩))
            | (go_at_call 14; refine Calls.quiet_of_same ((HN.out _ (by first | exact ⟨0, rfl⟩ | exact ⟨1, rfl⟩ | exact ⟨_, rfl⟩)).mono fun _ _ h => ⟨h.1, h.2.symm⟩)))
          go_wp2
          go_roundg (sc.length - (k + 1))
          case measure => omega
          case rel => exact ⟨k + 1, v', _, by go_num, hkt, rfl, by omega, HS2.out.below (below_drewV (Go.RowKit.Below.refl _ wc) nq)⟩
    · obtain rfl : k = sc.length := by omega
      obtain ⟨W0, hW0⟩ : ∃ W0, W0 = wr := ⟨_, rfl⟩
      subst hW0
      obtain ⟨M, hM⟩ : ∃ M, M = L.length := ⟨_, rfl⟩
      have HML := Lib.hid hM
      have hM120 : M ≤ 120 := by omega
      obtain ⟨aq, cq, hq⟩ := HS.out.row.slice
      rw [← hM] at hq
      subst hq
      clear hM hL
      go_wp2
      go_loopg [13, 14, 121] M (fun n s13 s14 s121 X => ∃ i : Nat, s121 = .int .i64 i ∧ i ≤ M ∧ n = M - i ∧ Hid (RowV X W0.heap.size s13 (fromL (L.take i) from_)) ∧ Hid (RowV X W0.heap.size s14 (L.reverse.take i)) ∧ Hid (∀ k, s13.ownBlock = some k → s14.ownBlock ≠ some k) ∧ Hid (Go.RowKit.Below W0.heap.size W0 X))
      case atStart => exact ⟨0, rfl, Nat.zero_le _, rfl, RowP.nil _ _ _ _, RowP.nil _ _ _ _, fun k h => by simp [Value.ownBlock] at h, Go.RowKit.Below.refl _ _⟩
      case round =>
        obtain ⟨i, rfl, hi, rfl, HU, HD, HX, HB⟩ := hrel
        by_cases hit : i < M
        · obtain ⟨z, hz⟩ := has_of (l := L) (k := i) (by rw [← HML.out]; exact hit)
          obtain ⟨j, hj⟩ : ∃ j, j = M - 1 - i := ⟨_, rfl⟩
          have ej : (M : Int) - 1 - (i : Int) = (j : Int) := by omega
          have hjM : j < M := by omega
          obtain ⟨y, hy⟩ := has_of (l := L) (k := j) (by rw [← HML.out]; exact hjM)
          have HFS := Lib.hid (fromL_snoc from_ hz)
          have HRS : Hid (L.reverse.take (i + 1) = L.reverse.take i ++ [y]) := rev_snoc (by rw [← HML.out]; exact hit) (by rw [← HML.out, ← hj]; exact hy)
          have HLSX := Lib.hid (HS.out.below HB.out)
          obtain ⟨gq, hgq, hcz, hcy⟩ : ∃ gq, aq = some ⟨gq, 0, none⟩ ∧ wr.cell? ⟨gq, i, none⟩ = some (.int .u32 z) ∧ wr.cell? ⟨gq, j, none⟩ = some (.int .u32 y) := by
            rcases HLSX.out.row.open with ⟨h, h0⟩ | ⟨g, cap, _, h, _⟩
            · rw [h0] at hz; simp at hz
            · have hc := (HLSX.out.row.cells h).2
              injection h with h1 h2 h3
              exact ⟨g, h1, (hc i z hz).1, (hc j y hy).1⟩
          subst hgq
          have hiM : (i : Int) < (M : Int) := by omega
          have hjM0 : (j : Int) < (M : Int) := by omega
          have hlu : (fromL (L.take i) from_).length ≤ 100000 := Nat.le_trans (List.length_filter_le _ _) (by rw [List.length_take]; omega)
          have hld : (L.reverse.take i).length ≤ 100000 := by rw [List.length_take]; omega
          obtain ⟨au, nu, cu, hu⟩ : ∃ a n c, u13 = .slice a n c := by obtain ⟨a, c, h⟩ := HU.out.slice; exact ⟨a, _, c, h⟩
          obtain ⟨ad, nd, cd, hdn⟩ : ∃ a n c, u14 = .slice a n c := by obtain ⟨a, c, h⟩ := HD.out.slice; exact ⟨a, _, c, h⟩
          subst hu hdn
          clear hz hy hj
          by_cases hf : from_ ≤ z
          · have hfz : (from_ : Int) ≤ (z : Int) := by omega
            obtain ⟨v13, w5, hr5, h5a, h5b, h5c, h5d, ⟨a5, n5, c5, h5e⟩⟩ := grow32 HU.out HB.out.size hlu z 22
            subst h5e
            have hD5 : RowV w5 W0.heap.size (.slice ad nd cd) (L.reverse.take i) := HD.out.keep fun g hg => h5c g (HD.out.lt hg).1 (fun e => HX.out g e hg)
            obtain ⟨v14, w6, hr6, h6a, h6b, h6c, h6d, ⟨a6, n6, c6, h6e⟩⟩ := grow32 hD5 (Nat.le_trans HB.out.size h5b.size) hld y 22
            subst h6e
            have hX5 : ∀ k, (Value.slice a5 n5 c5).ownBlock = some k → (Value.slice ad nd cd).ownBlock ≠ some k := fun k h1 h2 => by
              rcases h5d with h | ⟨g, h, hg⟩
              · rw [h] at h1; exact HX.out k h1 h2
              · rw [h] at h1; injection h1 with h1; have := (HD.out.lt h2).1; omega
            have HX6 : Hid (∀ k, (Value.slice a5 n5 c5).ownBlock = some k → (Value.slice a6 n6 c6).ownBlock ≠ some k) := fun k h1 h2 => by
              rcases h6d with h | ⟨g, h, hg⟩
              · rw [h] at h2; exact hX5 k h1 h2
              · rw [h] at h2; injection h2 with h2; have := (h5a.lt h1).1; omega
            have HU6 : Hid (RowV w6 W0.heap.size (.slice a5 n5 c5) (fromL (L.take (i + 1)) from_)) := by
              show RowV _ _ _ _
              rw [HFS.out, if_pos hf]
              exact h5a.keep fun g hg => h6c g (h5a.lt hg).1 (fun e => hX5 g hg e)
            have HD6 : Hid (RowV w6 W0.heap.size (.slice a6 n6 c6) (L.reverse.take (i + 1))) := by
              show RowV _ _ _ _
              rw [HRS.out]; exact h6a
            have HB6 := Lib.hid (HB.out.trans (h5b.trans h6b))
            have hcy5 : w5.cell? ⟨gq, j, none⟩ = some (.int .u32 y) := (cell_same (h5c gq (World.block_lt_of_cell? _ _ hcy) (fun e => by have h1 := (HU.out.lt e).2; have h2 := (HS.out.row.lt (show (Value.slice (some ⟨gq, 0, none⟩) M cq).ownBlock = some gq from rfl)).1; omega)) j).trans hcy
            clear h5a h5b h5c h5d h6a h6b h6c h6d hD5 hX5 hf
            go_wp2_with (at_builtin; first | refine Lib.wpList_append_run _ rfl _ _ _ _ rfl _ _ rfl rfl _ _ hr5 ?_ | refine Lib.wpList_append_run _ rfl _ _ _ _ rfl _ _ rfl rfl _ _ hr6 ?_)
            go_roundg (M - (i + 1))
            case measure => omega
            case rel => exact ⟨i + 1, by go_num, hit, rfl, HU6, HD6, HX6, HB6⟩
          · have hfz : ¬ (from_ : Int) ≤ (z : Int) := by omega
            obtain ⟨v14, w6, hr6, h6a, h6b, h6c, h6d, ⟨a6, n6, c6, h6e⟩⟩ := grow32 HD.out HB.out.size hld y 22
            subst h6e
            have HX6 : Hid (∀ k, (Value.slice au nu cu).ownBlock = some k → (Value.slice a6 n6 c6).ownBlock ≠ some k) := fun k h1 h2 => by
              rcases h6d with h | ⟨g, h, hg⟩
              · rw [h] at h2; exact HX.out k h1 h2
              · rw [h] at h2; injection h2 with h2; have := (HU.out.lt h1).1; omega
            have HU6 : Hid (RowV w6 W0.heap.size (.slice au nu cu) (fromL (L.take (i + 1)) from_)) := by
              show RowV _ _ _ _
              rw [HFS.out, if_neg hf]
              exact HU.out.keep fun g hg => h6c g (HU.out.lt hg).1 (fun e => HX.out g hg e)
            have HD6 : Hid (RowV w6 W0.heap.size (.slice a6 n6 c6) (L.reverse.take (i + 1))) := by
              show RowV _ _ _ _
              rw [HRS.out]; exact h6a
            have HB6 := Lib.hid (HB.out.trans h6b)
            clear h6a h6b h6c h6d hf
            go_wp2_with (at_builtin; refine Lib.wpList_append_run _ rfl _ _ _ _ rfl _ _ rfl rfl _ _ hr6 ?_)
            go_roundg (M - (i + 1))
            case measure => omega
            case rel => exact ⟨i + 1, by go_num, hit, rfl, HU6, HD6, HX6, HB6⟩
        · obtain rfl : i = M := by omega
          have HEN : Hid (EN w1 wr p v (.slice aq i cq) u13 u14 L from_) := ⟨HS.out.below HB.out, ⟨_, by have := HU.out; rw [HML.out, List.take_length] at this; exact this⟩, ⟨_, by have := HD.out; rw [HML.out, ← List.length_reverse, List.take_length] at this; exact this⟩⟩
          clear HU HD HX HB HS
          have HLL : Hid (L.length ≤ 120) := by show _ ≤ _; rw [← HML.out]; exact hM120
          clear HML
          go_upto_region 35 with (first
            | (go_at_call 15; refine (copy2_any HEN.out.ls.set (by have := HLL.out; omega)).mono ?_; rintro e x1 ⟨pc, vc, rfl, hpc, hsc, hbc⟩; have HPC := Lib.hid hpc; have HSC := Lib.hid hsc; have HBC := Lib.hid hbc; clear hpc hsc hbc)
            | (go_at_call 7; refine (add3_any HSC.out HPC.out (by have := HLL.out; omega) HBC.out.size from_).mono ?_; rintro e x2 ⟨⟨bd, rfl⟩, vd, ld, hsd, hld, hbd⟩; have HSD := Lib.hid hsd; have HLD := Lib.hid hld; have HBD := Lib.hid (HBC.out.trans hbd); clear hsd hld hbd)
            | (go_at_call 10; refine (rem3_any HSD.out HPC.out (by have := HLL.out; have := HLD.out; omega) HBD.out.size 0).mono ?_; rintro e x3 ⟨⟨be, rfl⟩, hbe⟩; have HE0 := Lib.hid (HEN.out.below (HBD.out.trans hbe)); clear hbe))
          clear HPC HSC HBC HSD HLD HBD HEN
          go_wp2_with (first
            | (go_at_call 17; refine (rowDownN_any HN7.out HN8.out).mono ?_; rintro e x17 ⟨vz, rfl, hr, hb⟩; obtain ⟨az2, cz2, rfl⟩ := hr.slice; have HE17 := Lib.hid (HE16.out.below hb); clear hr hb)
            | (go_at_call 20; refine (downN_any _).mono ?_; rintro e x16 ⟨b7, b8, rfl, h1, h2, hb⟩; have HN7 := Lib.hid h1; have HN8 := Lib.hid h2; have HE16 := Lib.hid (HE15.out.below hb); clear h1 h2 hb)
            | (go_at_call 17; refine (rowAllN_any HN5.out HN6.out).mono ?_; rintro e x15 ⟨vy, rfl, hr, hb⟩; obtain ⟨az1, cz1, rfl⟩ := hr.slice; have HE15 := Lib.hid (HE14.out.below hb); clear hr hb)
            | (go_at_call 18; refine (allN_any _).mono ?_; rintro e x14 ⟨b5, b6, rfl, h1, h2, hb⟩; have HN5 := Lib.hid h1; have HN6 := Lib.hid h2; have HE14 := Lib.hid (HE10.out.below hb); clear h1 h2 hb)
            | (go_at_call 15; refine (nCopy_any _).mono ?_; rintro e x13 ⟨rfl, rfl⟩)
            | (go_at_call 14; refine (nLen_any _).mono ?_; rintro e x12 ⟨rfl, rfl⟩)
            | (go_at_call 13; refine (nHas_any 1 _).mono ?_; rintro e x11 ⟨rfl, rfl⟩)
            | (go_at_call 7; refine (nAdd_any 1 _).mono ?_; rintro e x10 ⟨rfl, hb⟩; have HE10 := Lib.hid (HE9.out.below hb); clear hb)
            | (go_at_call 16; refine (psSame_any _ _ L.reverse (by rw [List.length_reverse]; have := HLL.out; omega) _ HR8.out.sl (by obtain ⟨_, h⟩ := HE8.out.dn; exact h.sl)).mono ?_; rintro e x9 ⟨rfl, hb⟩; have HE9 := Lib.hid (HE8.out.below hb); clear hb)
            | (go_at_call 17; refine (rowDown_any HE7.out.ls.set (by have := HLL.out; omega) HN3.out HN4.out).mono ?_; rintro e x8 ⟨vr8, rfl, hr, hb⟩; have HE8 := Lib.hid (HE7.out.below hb); have HR8 := Lib.hid hr; clear hr hb)
            | (go_at_call 20; refine (down_any p _).mono ?_; rintro e x7 ⟨b3, b4, rfl, h1, h2, hb⟩; have HN3 := Lib.hid h1; have HN4 := Lib.hid h2; have HE7 := Lib.hid (HE6.out.below hb); clear h1 h2 hb)
            | (go_at_call 16; refine (psSame_any _ _ (fromL L from_) (Nat.le_trans (List.length_filter_le _ _) (by have := HLL.out; omega)) _ HR5.out.sl (by obtain ⟨_, h⟩ := HE5.out.up; exact h.sl)).mono ?_; rintro e x6 ⟨rfl, hb⟩; have HE6 := Lib.hid (HE5.out.below hb); clear hb)
            | (go_at_call 17; refine (rowFrom_any HE4.out.ls.set (by have := HLL.out; omega) HF4.out).mono ?_; rintro e x5 ⟨vr5, rfl, hr, hb⟩; have HE5 := Lib.hid (HE4.out.below hb); have HR5 := Lib.hid hr; clear hr hb)
            | (go_at_call 19; refine (plFrom_any p from_ _).mono ?_; rintro e x4 ⟨c1', c2', c3', c4', rfl, hf, hb⟩; have HF4 := Lib.hid hf; have HE4 := Lib.hid (HE3.out.below hb); clear hf hb)
            | (go_at_call 16; refine (psSame_any _ _ L (by have := HLL.out; omega) _ HR2.out.sl HE2.out.ls.row.sl).mono ?_; rintro e x3' ⟨rfl, hb⟩; have HE3 := Lib.hid (HE2.out.below hb); clear hb)
            | (go_at_call 17; refine (rowAll_any HE1.out.ls.set (by have := HLL.out; omega) HN1.out HN2.out).mono ?_; rintro e x2' ⟨vr2, rfl, hr, hb⟩; have HE2 := Lib.hid (HE1.out.below hb); have HR2 := Lib.hid hr; clear hr hb)
            | (go_at_call 18; refine (all_any p _).mono ?_; rintro e x1' ⟨b1, b2, rfl, h1, h2, hb⟩; have HN1 := Lib.hid h1; have HN2 := Lib.hid h2; have HE1 := Lib.hid (HE0.out.below hb); clear h1 h2 hb))
          go_ret
          exact ⟨rfl, HB1.out.trans (HE17.out.ls.bel.mono HB1.out.size)⟩
end Go.Proofs.Ytdkkcogjkeonkaa
