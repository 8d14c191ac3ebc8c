/- Texts of one seat, merged. -/
import Derived.Test.YtgmneapgihakgaaGreatDoorZ34
import Derived.Deep.RegionHeld3
set_option maxRecDepth 100000
set_option maxHeartbeats 4000000
set_option linter.unusedVariables false
/- ReportPlain: its core. -/
namespace Go.Proofs.YtgmneapgihakgaaGreatDoor
open Go.RowKit
theorem pl_count (T : List UInt8) (w : World) : Calls Tryz.prog 54 #[.string (str T)] w fun e w' => e = .returned (.int .i64 (T.count 10 : Nat)) ∧ w' = w := by
  have H := Lib.hid (Tryz.strings_Count_one (str T) 10 w)
  go_enter Tryz.func54, Tryz.ntmps54
  go_wp2_with (go_at_call 55; refine H.out.mono ?_; rintro e1 w1 ⟨rfl, rfl⟩)
  go_ret
  exact ⟨rfl, rfl⟩
theorem step20 {w w1 w2 : World} {B : Nat} {p0 p1 p2 p3 p4 p5 p6 p7 p8 p9 p10 p11 p12 p13 p14 p15 p16 p17 p18 p19 : Addr} {v0 v1 v2 v3 v4 v5 v6 v7 v8 v9 v10 v11 v12 v13 v14 v15 v16 v17 v18 v19 : Value} (hB : B ≤ w.heap.size) (H : w1.cell? p0 = some v0 ∧ w1.cell? p1 = some v1 ∧ w1.cell? p2 = some v2 ∧ w1.cell? p3 = some v3 ∧ w1.cell? p4 = some v4 ∧ w1.cell? p5 = some v5 ∧ w1.cell? p6 = some v6 ∧ w1.cell? p7 = some v7 ∧ w1.cell? p8 = some v8 ∧ w1.cell? p9 = some v9 ∧ w1.cell? p10 = some v10 ∧ w1.cell? p11 = some v11 ∧ w1.cell? p12 = some v12 ∧ w1.cell? p13 = some v13 ∧ w1.cell? p14 = some v14 ∧ w1.cell? p15 = some v15 ∧ w1.cell? p16 = some v16 ∧ w1.cell? p17 = some v17 ∧ w1.cell? p18 = some v18 ∧ w1.cell? p19 = some v19 ∧ Below B w w1) (hb : Below w1.heap.size w1 w2) : w2.cell? p0 = some v0 ∧ w2.cell? p1 = some v1 ∧ w2.cell? p2 = some v2 ∧ w2.cell? p3 = some v3 ∧ w2.cell? p4 = some v4 ∧ w2.cell? p5 = some v5 ∧ w2.cell? p6 = some v6 ∧ w2.cell? p7 = some v7 ∧ w2.cell? p8 = some v8 ∧ w2.cell? p9 = some v9 ∧ w2.cell? p10 = some v10 ∧ w2.cell? p11 = some v11 ∧ w2.cell? p12 = some v12 ∧ w2.cell? p13 = some v13 ∧ w2.cell? p14 = some v14 ∧ w2.cell? p15 = some v15 ∧ w2.cell? p16 = some v16 ∧ w2.cell? p17 = some v17 ∧ w2.cell? p18 = some v18 ∧ w2.cell? p19 = some v19 ∧ Below B w w2 := by
  obtain ⟨h0, h1, h2, h3, h4, h5, h6, h7, h8, h9, h10, h11, h12, h13, h14, h15, h16, h17, h18, h19, hq⟩ := H
  exact ⟨(hb.cell (p := p0) (World.block_lt_of_cell? _ _ h0)).trans h0, (hb.cell (p := p1) (World.block_lt_of_cell? _ _ h1)).trans h1, (hb.cell (p := p2) (World.block_lt_of_cell? _ _ h2)).trans h2, (hb.cell (p := p3) (World.block_lt_of_cell? _ _ h3)).trans h3, (hb.cell (p := p4) (World.block_lt_of_cell? _ _ h4)).trans h4, (hb.cell (p := p5) (World.block_lt_of_cell? _ _ h5)).trans h5, (hb.cell (p := p6) (World.block_lt_of_cell? _ _ h6)).trans h6, (hb.cell (p := p7) (World.block_lt_of_cell? _ _ h7)).trans h7, (hb.cell (p := p8) (World.block_lt_of_cell? _ _ h8)).trans h8, (hb.cell (p := p9) (World.block_lt_of_cell? _ _ h9)).trans h9, (hb.cell (p := p10) (World.block_lt_of_cell? _ _ h10)).trans h10, (hb.cell (p := p11) (World.block_lt_of_cell? _ _ h11)).trans h11, (hb.cell (p := p12) (World.block_lt_of_cell? _ _ h12)).trans h12, (hb.cell (p := p13) (World.block_lt_of_cell? _ _ h13)).trans h13, (hb.cell (p := p14) (World.block_lt_of_cell? _ _ h14)).trans h14, (hb.cell (p := p15) (World.block_lt_of_cell? _ _ h15)).trans h15, (hb.cell (p := p16) (World.block_lt_of_cell? _ _ h16)).trans h16, (hb.cell (p := p17) (World.block_lt_of_cell? _ _ h17)).trans h17, (hb.cell (p := p18) (World.block_lt_of_cell? _ _ h18)).trans h18, (hb.cell (p := p19) (World.block_lt_of_cell? _ _ h19)).trans h19, hq.trans (hb.mono (Nat.le_trans hB hq.size))⟩
theorem inv20 (e : Int) (x1 x2 x3 x4 y0 y1 z0 z1 z2 z3 z4 z5 z6 z7 z8 : Value) (am aq ab an : Option Addr) (nm nq nb nn km kq kb kn : Nat) (w : World) (V : World) (h : Inv3 #[.int .i64 e, x1, x2, x3, x4, .slice am nm km] #[y0, y1, .slice aq nq kq, .slice ab nb kb, .slice an nn kn] #[z0, z1, z2, z3, z4, z5, z6, z7, z8] w V) : V.cell? ⟨w.heap.size, 0, none⟩ = some (.int .i64 e) ∧ V.cell? ⟨w.heap.size, 1, none⟩ = some (x1) ∧ V.cell? ⟨w.heap.size, 2, none⟩ = some (x2) ∧ V.cell? ⟨w.heap.size, 3, none⟩ = some (x3) ∧ V.cell? ⟨w.heap.size, 4, none⟩ = some (x4) ∧ V.cell? ⟨w.heap.size, 5, none⟩ = some (.slice am nm km) ∧ V.cell? ⟨w.heap.size + 1, 0, none⟩ = some (y0) ∧ V.cell? ⟨w.heap.size + 1, 1, none⟩ = some (y1) ∧ V.cell? ⟨w.heap.size + 1, 2, none⟩ = some (.slice aq nq kq) ∧ V.cell? ⟨w.heap.size + 1, 3, none⟩ = some (.slice ab nb kb) ∧ V.cell? ⟨w.heap.size + 1, 4, none⟩ = some (.slice an nn kn) ∧ V.cell? ⟨w.heap.size + 1 + 1, 0, none⟩ = some (z0) ∧ V.cell? ⟨w.heap.size + 1 + 1, 1, none⟩ = some (z1) ∧ V.cell? ⟨w.heap.size + 1 + 1, 2, none⟩ = some (z2) ∧ V.cell? ⟨w.heap.size + 1 + 1, 3, none⟩ = some (z3) ∧ V.cell? ⟨w.heap.size + 1 + 1, 4, none⟩ = some (z4) ∧ V.cell? ⟨w.heap.size + 1 + 1, 5, none⟩ = some (z5) ∧ V.cell? ⟨w.heap.size + 1 + 1, 6, none⟩ = some (z6) ∧ V.cell? ⟨w.heap.size + 1 + 1, 7, none⟩ = some (z7) ∧ V.cell? ⟨w.heap.size + 1 + 1, 8, none⟩ = some (z8) ∧ Below w.heap.size w V :=
  ⟨h.x.cell (i := 0) rfl, h.x.cell (i := 1) rfl, h.x.cell (i := 2) rfl, h.x.cell (i := 3) rfl, h.x.cell (i := 4) rfl, h.x.cell (i := 5) rfl, h.y.cell (i := 0) rfl, h.y.cell (i := 1) rfl, h.y.cell (i := 2) rfl, h.y.cell (i := 3) rfl, h.y.cell (i := 4) rfl, h.z.cell (i := 0) rfl, h.z.cell (i := 1) rfl, h.z.cell (i := 2) rfl, h.z.cell (i := 3) rfl, h.z.cell (i := 4) rfl, h.z.cell (i := 5) rfl, h.z.cell (i := 6) rfl, h.z.cell (i := 7) rfl, h.z.cell (i := 8) rfl, h.b⟩
set_option maxHeartbeats 16000000 in
theorem plain_core (e : Int) (x1 x2 x3 x4 y0 y1 z0 z1 z2 z3 z4 z5 z6 z7 z8 : Value) (am aq ab an : Option Addr) (nm nq nb nn km kq kb kn : Nat) (w : World) (T1 T2 T3 : List UInt8) (c1 : Nat)
    (L1 : Ln T1 c1) (L2 : Ln T2 (nq + nb + nn + 1)) (L3 : Ln T3 2) (hc : e = 0 → c1 = nm) (l1 : T1.length ≤ 100000000) (l2 : T2.length ≤ 100000000) (l3 : T3.length ≤ 100000000) (hn : nq + nb + nn ≤ 1000)
    (HA : ∀ W, Below w.heap.size w W → Calls Tryz.prog 39 #[] W fun e w' => e = .returned (.bool true) ∧ Below W.heap.size W w')
    (HL : ∀ W, Below w.heap.size w W → Calls Tryz.prog 40 #[.agg #[.int .i64 e, x1, x2, x3, x4, .slice am nm km]] W fun e w' => e = .returned (.bool true) ∧ Below W.heap.size W w')
    (HD : ∀ W, Below w.heap.size w W → Calls Tryz.prog 41 #[.agg #[y0, y1, .slice aq nq kq, .slice ab nb kb, .slice an nn kn]] W fun e w' => e = .returned (.bool true) ∧ Below W.heap.size W w')
    (HF : ∀ W, Below w.heap.size w W → Calls Tryz.prog 42 #[.agg #[z0, z1, z2, z3, z4, z5, z6, z7, z8]] W fun e w' => e = .returned (.bool true) ∧ Below W.heap.size W w')
    (HR : ∀ W, Below w.heap.size w W → Calls Tryz.prog 47 #[.agg #[.int .i64 e, x1, x2, x3, x4, .slice am nm km]] W fun e w' => e = .returned (.string (str T1)) ∧ Below W.heap.size W w')
    (HU : ∀ W, Below w.heap.size w W → Calls Tryz.prog 50 #[.agg #[y0, y1, .slice aq nq kq, .slice ab nb kb, .slice an nn kn]] W fun e w' => e = .returned (.string (str T2)) ∧ Below W.heap.size W w')
    (HP : ∀ W, Below w.heap.size w W → Calls Tryz.prog 52 #[.agg #[z0, z1, z2, z3, z4, z5, z6, z7, z8]] W fun e w' => e = .returned (.string (str T3)) ∧ Below W.heap.size W w') :
    Calls Tryz.prog 8 #[.agg #[.int .i64 e, x1, x2, x3, x4, .slice am nm km], .agg #[y0, y1, .slice aq nq kq, .slice ab nb kb, .slice an nn kn], .agg #[z0, z1, z2, z3, z4, z5, z6, z7, z8]] w fun e w' => e = .returned (.bool true) ∧ Below w.heap.size w w' := by
  have H0 : Hid (Inv3 #[.int .i64 e, x1, x2, x3, x4, .slice am nm km] #[y0, y1, .slice aq nq kq, .slice ab nb kb, .slice an nn kn] #[z0, z1, z2, z3, z4, z5, z6, z7, z8] w (((w.alloc (.cells #[.int .i64 e, x1, x2, x3, x4, .slice am nm km] 101)).alloc (.cells #[y0, y1, .slice aq nq kq, .slice ab nb kb, .slice an nn kn] 103)).alloc (.cells #[z0, z1, z2, z3, z4, z5, z6, z7, z8] 106))) := by
    have h := box3 e x1 x2 x3 x4 y0 y1 z0 z1 z2 z3 z4 z5 z6 z7 z8 am aq ab an nm nq nb nn km kq kb kn w
    exact ⟨h.1, h.2.1, h.2.2.1, h.2.2.2⟩
  have HAA : Hid (∀ W, Below w.heap.size w W → Calls Tryz.prog 39 #[] W fun e w' => e = .returned (.bool true) ∧ Below W.heap.size W w') := HA
  have HLL := Lib.hid HL
  have HDD := Lib.hid HD
  have HFF := Lib.hid HF
  have HRR := Lib.hid HR
  have HUU := Lib.hid HU
  have HPP := Lib.hid HP
  have HL1 := Lib.hid L1
  have HL2 := Lib.hid L2
  have HL3 := Lib.hid L3
  have HC := Lib.hid hc
  have HLN : Hid (T1.length ≤ 100000000 ∧ T2.length ≤ 100000000 ∧ T3.length ≤ 100000000 ∧ nq + nb + nn ≤ 1000) := ⟨l1, l2, l3, hn⟩
  have hmx := mixed0
  clear HA HL HD HF HR HU HP L1 L2 L3 hc l1 l2 l3 hn
  go_enter Tryz.func8, Tryz.ntmps8
  go_upto_region 5 with (first
    | (go_at_call 39; (with_reducible refine (HAA.out _ H0.out.b).mono ?_); rintro _ w1 ⟨rfl, hb⟩; have H1 := Lib.hid (H0.out.step hb); clear hb; have r0 := (H1.out.x).cell (i := 0) (x := .int .i64 e) rfl; have r1 := (H1.out.x).cell (i := 1) (x := x1) rfl; have r2 := (H1.out.x).cell (i := 2) (x := x2) rfl; have r3 := (H1.out.x).cell (i := 3) (x := x3) rfl; have r4 := (H1.out.x).cell (i := 4) (x := x4) rfl; have r5 := (H1.out.x).cell (i := 5) (x := .slice am nm km) rfl)
    | (go_at_call 40; (with_reducible refine (HLL.out _ H1.out.b).mono ?_); rintro _ w2 ⟨rfl, hb⟩; have H2 := Lib.hid (H1.out.step hb); clear hb; have d0 := (H2.out.y).cell (i := 0) (x := y0) rfl; have d1 := (H2.out.y).cell (i := 1) (x := y1) rfl; have d2 := (H2.out.y).cell (i := 2) (x := .slice aq nq kq) rfl; have d3 := (H2.out.y).cell (i := 3) (x := .slice ab nb kb) rfl; have d4 := (H2.out.y).cell (i := 4) (x := .slice an nn kn) rfl)
    | (go_at_call 41; (with_reducible refine (HDD.out _ H2.out.b).mono ?_); rintro _ w3 ⟨rfl, hb⟩; have H3 := Lib.hid (H2.out.step hb); clear hb; have c0 := (H3.out.z).cell (i := 0) (x := z0) rfl; have c1 := (H3.out.z).cell (i := 1) (x := z1) rfl; have c2 := (H3.out.z).cell (i := 2) (x := z2) rfl; have c3 := (H3.out.z).cell (i := 3) (x := z3) rfl; have c4 := (H3.out.z).cell (i := 4) (x := z4) rfl; have c5 := (H3.out.z).cell (i := 5) (x := z5) rfl; have c6 := (H3.out.z).cell (i := 6) (x := z6) rfl; have c7 := (H3.out.z).cell (i := 7) (x := z7) rfl; have c8 := (H3.out.z).cell (i := 8) (x := z8) rfl)
    | (go_at_call 42; (with_reducible refine (HFF.out _ H3.out.b).mono ?_); rintro _ w4 ⟨rfl, hb⟩; have H4 := Lib.hid (H3.out.step hb); clear hb; skip))
  clear r0 r1 r2 r3 r4 r5 d0 d1 d2 d3 d4
  have H5 : Hid (w4.drew.cell? ⟨w.heap.size, 0, none⟩ = some (.int .i64 e) ∧ w4.drew.cell? ⟨w.heap.size, 1, none⟩ = some (x1) ∧ w4.drew.cell? ⟨w.heap.size, 2, none⟩ = some (x2) ∧ w4.drew.cell? ⟨w.heap.size, 3, none⟩ = some (x3) ∧ w4.drew.cell? ⟨w.heap.size, 4, none⟩ = some (x4) ∧ w4.drew.cell? ⟨w.heap.size, 5, none⟩ = some (.slice am nm km) ∧ w4.drew.cell? ⟨w.heap.size + 1, 0, none⟩ = some (y0) ∧ w4.drew.cell? ⟨w.heap.size + 1, 1, none⟩ = some (y1) ∧ w4.drew.cell? ⟨w.heap.size + 1, 2, none⟩ = some (.slice aq nq kq) ∧ w4.drew.cell? ⟨w.heap.size + 1, 3, none⟩ = some (.slice ab nb kb) ∧ w4.drew.cell? ⟨w.heap.size + 1, 4, none⟩ = some (.slice an nn kn) ∧ w4.drew.cell? ⟨w.heap.size + 1 + 1, 0, none⟩ = some (z0) ∧ w4.drew.cell? ⟨w.heap.size + 1 + 1, 1, none⟩ = some (z1) ∧ w4.drew.cell? ⟨w.heap.size + 1 + 1, 2, none⟩ = some (z2) ∧ w4.drew.cell? ⟨w.heap.size + 1 + 1, 3, none⟩ = some (z3) ∧ w4.drew.cell? ⟨w.heap.size + 1 + 1, 4, none⟩ = some (z4) ∧ w4.drew.cell? ⟨w.heap.size + 1 + 1, 5, none⟩ = some (z5) ∧ w4.drew.cell? ⟨w.heap.size + 1 + 1, 6, none⟩ = some (z6) ∧ w4.drew.cell? ⟨w.heap.size + 1 + 1, 7, none⟩ = some (z7) ∧ w4.drew.cell? ⟨w.heap.size + 1 + 1, 8, none⟩ = some (z8) ∧ Below w.heap.size w w4.drew) := inv20 e x1 x2 x3 x4 y0 y1 z0 z1 z2 z3 z4 z5 z6 z7 z8 am aq ab an nm nq nb nn km kq kb kn w _ (H4.out.step (Below.refl _ _).drew)
  have J0 := Lib.hid (H4.out.step (Below.refl _ _).drew)
  clear c0 c1 c2 c3 c4 c5 c6 c7 c8 H0 H1 H2 H3 HLL HDD HFF HAA H4
  go_region_held3 (fun W => W.cell? ⟨w.heap.size, 0, none⟩ = some (.int .i64 e) ∧ W.cell? ⟨w.heap.size, 1, none⟩ = some (x1) ∧ W.cell? ⟨w.heap.size, 2, none⟩ = some (x2) ∧ W.cell? ⟨w.heap.size, 3, none⟩ = some (x3) ∧ W.cell? ⟨w.heap.size, 4, none⟩ = some (x4) ∧ W.cell? ⟨w.heap.size, 5, none⟩ = some (.slice am nm km) ∧ W.cell? ⟨w.heap.size + 1, 0, none⟩ = some (y0) ∧ W.cell? ⟨w.heap.size + 1, 1, none⟩ = some (y1) ∧ W.cell? ⟨w.heap.size + 1, 2, none⟩ = some (.slice aq nq kq) ∧ W.cell? ⟨w.heap.size + 1, 3, none⟩ = some (.slice ab nb kb) ∧ W.cell? ⟨w.heap.size + 1, 4, none⟩ = some (.slice an nn kn) ∧ W.cell? ⟨w.heap.size + 1 + 1, 0, none⟩ = some (z0) ∧ W.cell? ⟨w.heap.size + 1 + 1, 1, none⟩ = some (z1) ∧ W.cell? ⟨w.heap.size + 1 + 1, 2, none⟩ = some (z2) ∧ W.cell? ⟨w.heap.size + 1 + 1, 3, none⟩ = some (z3) ∧ W.cell? ⟨w.heap.size + 1 + 1, 4, none⟩ = some (z4) ∧ W.cell? ⟨w.heap.size + 1 + 1, 5, none⟩ = some (z5) ∧ W.cell? ⟨w.heap.size + 1 + 1, 6, none⟩ = some (z6) ∧ W.cell? ⟨w.heap.size + 1 + 1, 7, none⟩ = some (z7) ∧ W.cell? ⟨w.heap.size + 1 + 1, 8, none⟩ = some (z8) ∧ Below w.heap.size w W)
    ((first | with_reducible assumption | exact H5.out | exact step20 (Nat.le_refl _) ‹_› hb1 | exact step20 (Nat.le_refl _) ‹_› ((Below.refl _ _).alloc (Nat.le_refl _) _)))
    (first
      | (go_at_call 52; (with_reducible refine (HPP.out _ J2.out.b).mono ?_); rintro _ w7 ⟨rfl, hb1⟩; have J3 := Lib.hid (J2.out.step hb1))
      | (go_at_call 50; (with_reducible refine (HUU.out _ J1.out.b).mono ?_); rintro _ w6 ⟨rfl, hb1⟩; have J2 := Lib.hid (J1.out.step hb1))
      | (go_at_call 47; (with_reducible refine (HRR.out _ J0.out.b).mono ?_); rintro _ w5 ⟨rfl, hb1⟩; have J1 := Lib.hid (J0.out.step hb1)))
  all_goals
    clear H5 hb1
    have J8 := Lib.hid (J3.out.step ((Below.refl _ w7).alloc (Nat.le_refl _) (.cells #[.string (str T1), .string (str T2), .string (str T3)] 9)))
    have R8 := Lib.hid (BoxL.new w7 #[.string (str T1), .string (str T2), .string (str T3)] 9)
    generalize hB : w7.heap.size = B at R8 ⊢
    generalize hW8 : w7.alloc (.cells #[.string (str T1), .string (str T2), .string (str T3)] 9) = w8 at J8 R8 ⊢
    clear hB hW8 J0 J1 J2 J3
    have RT : Hid (∀ k : Nat, k < 3 → ∃ T : List UInt8, w8.cell? ⟨B, k, none⟩ = some (.string (str T)) ∧ (∀ b ∈ T, b.toNat = 10 ∨ (32 ≤ b.toNat ∧ b.toNat ≤ 126)) ∧ T.length ≤ 100000000) := fun k hk => by
      match k, hk with
      | 0, _ => exact ⟨T1, R8.out.cell (i := 0) rfl, HL1.out.plain, HLN.out.1⟩
      | 1, _ => exact ⟨T2, R8.out.cell (i := 1) rfl, HL2.out.plain, HLN.out.2.1⟩
      | 2, _ => exact ⟨T3, R8.out.cell (i := 2) rfl, HL3.out.plain, HLN.out.2.2.1⟩
    go_wp2
    go_loopg [35] 3 (fun n i wr => ∃ k : Nat, k ≤ 3 ∧ n = 3 - k ∧ i = .int .i64 (k : Nat) ∧ wr = w8)
    case atStart => exact ⟨0, Nat.zero_le _, rfl, rfl, rfl⟩
    case round =>
      obtain ⟨k, hk, rfl, rfl, rfl⟩ := hrel
      rename World => W8
      by_cases hlt : k < 3
      · obtain ⟨T, hcell, hp, hl⟩ := RT.out k hlt
        have HPL := Lib.hid hp
        have hcell0 : W8.cell? ⟨B, 0 + k, none⟩ = some (.string (str T)) := by rw [Nat.zero_add]; exact hcell
        have hz : (str T).size = T.length := rfl
        have hk3 : (k : Int) < 3 := by omega
        have hk4 : decide ((k : Int) < 3) = true := decide_eq_true hk3
        clear hp
        go_wp2
        try simp only [hk4]
        go_loopg [41] T.length (fun n i wr => ∃ j : Nat, j ≤ T.length ∧ n = T.length - j ∧ i = .int .i64 (j : Nat) ∧ wr = W8)
        case atStart => exact ⟨0, Nat.zero_le _, rfl, rfl, rfl⟩
        case round =>
          obtain ⟨j, hj, rfl, rfl, rfl⟩ := hrel
          by_cases hjt : j < T.length
          · obtain ⟨c, hc⟩ : ∃ c, T[j]? = some c := ⟨_, List.getElem?_eq_getElem hjt⟩
            have hix := strIx T j c hc
            have hpc := HPL.out c (List.mem_of_getElem? hc)
            clear hc
            by_cases c10 : c.toNat = 10
            · have d1 : ((c.toNat : Int) != 10) = false := by rw [c10]; rfl
              clear hpc
              go_wp2
              go_roundg (T.length - (j + 1))
              case measure => omega
              case rel => exact ⟨j + 1, hjt, rfl, by go_num, rfl⟩
            · have d1 : ((c.toNat : Int) != 10) = true := by simp; omega
              have d2 : ¬ (c.toNat : Int) < 32 := by omega
              have d3 : ¬ (126 : Int) < c.toNat := by omega
              clear hpc
              go_wp2
              go_roundg (T.length - (j + 1))
              case measure => omega
              case rel => exact ⟨j + 1, hjt, rfl, by go_num, rfl⟩
          · obtain rfl : j = T.length := by omega
            go_wp2
            go_roundg (3 - (k + 1))
            case measure => omega
            case rel => exact ⟨k + 1, hlt, rfl, by go_num, rfl⟩
      · obtain rfl : k = 3 := by omega
        have g2 := (J8.out.y).cell (i := 2) (x := .slice aq nq kq) rfl
        have g3 := (J8.out.y).cell (i := 3) (x := .slice ab nb kb) rfl
        have g4 := (J8.out.y).cell (i := 4) (x := .slice an nn kn) rfl
        have hN := HLN.out.2.2.2
        have hw1 : IntKind.i64.wrap ((nq : Int) + nb) = (nq : Int) + nb := by simp [IntKind.wrap, IntKind.bits, IntKind.signed]; omega
        have hw2 : IntKind.i64.wrap ((nq : Int) + nb + nn) = (nq : Int) + nb + nn := by simp [IntKind.wrap, IntKind.bits, IntKind.signed]; omega
        have hw3 : IntKind.i64.wrap ((nq : Int) + nb + nn + 1) = (nq : Int) + nb + nn + 1 := by simp [IntKind.wrap, IntKind.bits, IntKind.signed]; omega
        have HC2 : Hid (∀ W, Calls Tryz.prog 54 #[.string (str T2)] W fun e w' => e = .returned (.int .i64 ((nq : Int) + nb + nn + 1)) ∧ w' = W) := fun W => (pl_count T2 W).mono fun e w' h => ⟨by rw [h.1, HL2.out.count]; rfl, h.2⟩
        have HC3 : Hid (∀ W, Calls Tryz.prog 54 #[.string (str T3)] W fun e w' => e = .returned (.int .i64 2) ∧ w' = W) := fun W => (pl_count T3 W).mono fun e w' h => ⟨by rw [h.1, HL3.out.count]; rfl, h.2⟩
        have HC1 : Hid (∀ W, Calls Tryz.prog 54 #[.string (str T1)] W fun e w' => e = .returned (.int .i64 c1) ∧ w' = W) := fun W => (pl_count T1 W).mono fun e w' h => ⟨by rw [h.1, HL1.out.count], h.2⟩
        clear hN
        go_upto_region 17 with fail
        have K0 := Lib.hid (J8.out.step (Below.refl _ W8).drew)
        have H17 : Hid (W8.drew.cell? ⟨w.heap.size, 0, none⟩ = some (.int .i64 e) ∧ W8.drew.cell? ⟨w.heap.size, 1, none⟩ = some (x1) ∧ W8.drew.cell? ⟨w.heap.size, 2, none⟩ = some (x2) ∧ W8.drew.cell? ⟨w.heap.size, 3, none⟩ = some (x3) ∧ W8.drew.cell? ⟨w.heap.size, 4, none⟩ = some (x4) ∧ W8.drew.cell? ⟨w.heap.size, 5, none⟩ = some (.slice am nm km) ∧ W8.drew.cell? ⟨w.heap.size + 1, 0, none⟩ = some (y0) ∧ W8.drew.cell? ⟨w.heap.size + 1, 1, none⟩ = some (y1) ∧ W8.drew.cell? ⟨w.heap.size + 1, 2, none⟩ = some (.slice aq nq kq) ∧ W8.drew.cell? ⟨w.heap.size + 1, 3, none⟩ = some (.slice ab nb kb) ∧ W8.drew.cell? ⟨w.heap.size + 1, 4, none⟩ = some (.slice an nn kn) ∧ W8.drew.cell? ⟨w.heap.size + 1 + 1, 0, none⟩ = some (z0) ∧ W8.drew.cell? ⟨w.heap.size + 1 + 1, 1, none⟩ = some (z1) ∧ W8.drew.cell? ⟨w.heap.size + 1 + 1, 2, none⟩ = some (z2) ∧ W8.drew.cell? ⟨w.heap.size + 1 + 1, 3, none⟩ = some (z3) ∧ W8.drew.cell? ⟨w.heap.size + 1 + 1, 4, none⟩ = some (z4) ∧ W8.drew.cell? ⟨w.heap.size + 1 + 1, 5, none⟩ = some (z5) ∧ W8.drew.cell? ⟨w.heap.size + 1 + 1, 6, none⟩ = some (z6) ∧ W8.drew.cell? ⟨w.heap.size + 1 + 1, 7, none⟩ = some (z7) ∧ W8.drew.cell? ⟨w.heap.size + 1 + 1, 8, none⟩ = some (z8) ∧ Below w.heap.size w W8.drew) := inv20 e x1 x2 x3 x4 y0 y1 z0 z1 z2 z3 z4 z5 z6 z7 z8 am aq ab an nm nq nb nn km kq kb kn w _ K0.out
        clear g2 g3 g4 RT R8
        by_cases he : e = 0
        · subst he
          have hcm : c1 = nm := HC.out rfl
          rw [hcm] at HC1
          go_region_held3 (fun W => W.cell? ⟨w.heap.size, 0, none⟩ = some (.int .i64 0) ∧ W.cell? ⟨w.heap.size, 1, none⟩ = some (x1) ∧ W.cell? ⟨w.heap.size, 2, none⟩ = some (x2) ∧ W.cell? ⟨w.heap.size, 3, none⟩ = some (x3) ∧ W.cell? ⟨w.heap.size, 4, none⟩ = some (x4) ∧ W.cell? ⟨w.heap.size, 5, none⟩ = some (.slice am nm km) ∧ W.cell? ⟨w.heap.size + 1, 0, none⟩ = some (y0) ∧ W.cell? ⟨w.heap.size + 1, 1, none⟩ = some (y1) ∧ W.cell? ⟨w.heap.size + 1, 2, none⟩ = some (.slice aq nq kq) ∧ W.cell? ⟨w.heap.size + 1, 3, none⟩ = some (.slice ab nb kb) ∧ W.cell? ⟨w.heap.size + 1, 4, none⟩ = some (.slice an nn kn) ∧ W.cell? ⟨w.heap.size + 1 + 1, 0, none⟩ = some (z0) ∧ W.cell? ⟨w.heap.size + 1 + 1, 1, none⟩ = some (z1) ∧ W.cell? ⟨w.heap.size + 1 + 1, 2, none⟩ = some (z2) ∧ W.cell? ⟨w.heap.size + 1 + 1, 3, none⟩ = some (z3) ∧ W.cell? ⟨w.heap.size + 1 + 1, 4, none⟩ = some (z4) ∧ W.cell? ⟨w.heap.size + 1 + 1, 5, none⟩ = some (z5) ∧ W.cell? ⟨w.heap.size + 1 + 1, 6, none⟩ = some (z6) ∧ W.cell? ⟨w.heap.size + 1 + 1, 7, none⟩ = some (z7) ∧ W.cell? ⟨w.heap.size + 1 + 1, 8, none⟩ = some (z8) ∧ Below w.heap.size w W)
            ((first | with_reducible assumption | exact H17.out | exact step20 (Nat.le_refl _) ‹_› hb1))
            (first
              | (go_at_call 54; (with_reducible refine (HC2.out _).mono ?_); rintro _ _ ⟨rfl, rfl⟩)
              | (go_at_call 54; (with_reducible refine (HC3.out _).mono ?_); rintro _ _ ⟨rfl, rfl⟩)
              | (go_at_call 54; (with_reducible refine (HC1.out _).mono ?_); rintro _ _ ⟨rfl, rfl⟩)
              | (go_at_call 47; (with_reducible refine (HRR.out _ K2.out.b).mono ?_); rintro _ w11 ⟨rfl, hb1⟩; have K3 := Lib.hid (K2.out.step hb1))
              | (go_at_call 52; (with_reducible refine (HPP.out _ K1.out.b).mono ?_); rintro _ w10 ⟨rfl, hb1⟩; have K2 := Lib.hid (K1.out.step hb1))
              | (go_at_call 50; (with_reducible refine (HUU.out _ K0.out.b).mono ?_); rintro _ w9 ⟨rfl, hb1⟩; have K1 := Lib.hid (K0.out.step hb1)))
          all_goals
            go_wp2
            go_ret
            exact ⟨rfl, K3.out.b⟩
        · have hne : (e != 0) = true := by rw [bne_iff_ne]; exact he
          refine wp_region_noPanic ?_
          refine wp_region_held_drew (S := fun W => W.cell? ⟨w.heap.size, 0, none⟩ = some (.int .i64 e) ∧ W.cell? ⟨w.heap.size, 1, none⟩ = some (x1) ∧ W.cell? ⟨w.heap.size, 2, none⟩ = some (x2) ∧ W.cell? ⟨w.heap.size, 3, none⟩ = some (x3) ∧ W.cell? ⟨w.heap.size, 4, none⟩ = some (x4) ∧ W.cell? ⟨w.heap.size, 5, none⟩ = some (.slice am nm km) ∧ W.cell? ⟨w.heap.size + 1, 0, none⟩ = some (y0) ∧ W.cell? ⟨w.heap.size + 1, 1, none⟩ = some (y1) ∧ W.cell? ⟨w.heap.size + 1, 2, none⟩ = some (.slice aq nq kq) ∧ W.cell? ⟨w.heap.size + 1, 3, none⟩ = some (.slice ab nb kb) ∧ W.cell? ⟨w.heap.size + 1, 4, none⟩ = some (.slice an nn kn) ∧ W.cell? ⟨w.heap.size + 1 + 1, 0, none⟩ = some (z0) ∧ W.cell? ⟨w.heap.size + 1 + 1, 1, none⟩ = some (z1) ∧ W.cell? ⟨w.heap.size + 1 + 1, 2, none⟩ = some (z2) ∧ W.cell? ⟨w.heap.size + 1 + 1, 3, none⟩ = some (z3) ∧ W.cell? ⟨w.heap.size + 1 + 1, 4, none⟩ = some (z4) ∧ W.cell? ⟨w.heap.size + 1 + 1, 5, none⟩ = some (z5) ∧ W.cell? ⟨w.heap.size + 1 + 1, 6, none⟩ = some (z6) ∧ W.cell? ⟨w.heap.size + 1 + 1, 7, none⟩ = some (z7) ∧ W.cell? ⟨w.heap.size + 1 + 1, 8, none⟩ = some (z8) ∧ Below w.heap.size w W) (by kernel_rfl) H17.out (fun hHeld => ?_)
          refine wpAnyH_take (i := 0) (v := ?hv0) rfl (by kernel_rfl) (by kernel_rfl) (by kernel_rfl) (fun _ _ _ h => h) (Or.inl ⟨by rfl, ?hy0⟩) (by assumption) ?_
          case hy0 => (intro w hSw; (try dsimp only at hSw); obtain ⟨s0, s1, s2, s3, s4, s5, s6, s7, s8, s9, s10, s11, s12, s13, s14, s15, s16, s17, s18, s19, sB⟩ := hSw; (try simp only [List.getElem_toArray, List.getElem_cons_zero]); go_simp; (try with_reducible rfl))
          try simp only [Act.put, List.setIfInBounds_toArray, List.set_cons_zero, List.set_cons_succ, List.getElem_toArray, List.getElem_cons_zero]
          refine wpAnyH_take (i := 1) (v := ?hv1) rfl (by kernel_rfl) (by kernel_rfl) (by kernel_rfl) (fun _ _ _ h => h) (Or.inl ⟨by rfl, ?hy1⟩) (by assumption) ?_
          case hy1 => (intro w hSw; (try dsimp only at hSw); obtain ⟨s0, s1, s2, s3, s4, s5, s6, s7, s8, s9, s10, s11, s12, s13, s14, s15, s16, s17, s18, s19, sB⟩ := hSw; (try simp only [List.getElem_toArray, List.getElem_cons_succ, List.getElem_cons_zero]); go_simp; (try with_reducible rfl))
          try simp only [Act.put, List.setIfInBounds_toArray, List.set_cons_zero, List.set_cons_succ, List.getElem_toArray, List.getElem_cons_succ, List.getElem_cons_zero]
          refine wpAnyH_take (i := 4) (v := ?hv4) rfl (by kernel_rfl) (by kernel_rfl) (by kernel_rfl) (fun _ _ _ h => h) (Or.inl ⟨by rfl, ?hy4⟩) (by assumption) ?_
          case hy4 => (intro w hSw; (try dsimp only at hSw); obtain ⟨s0, s1, s2, s3, s4, s5, s6, s7, s8, s9, s10, s11, s12, s13, s14, s15, s16, s17, s18, s19, sB⟩ := hSw; (try simp only [List.getElem_toArray, List.getElem_cons_succ, List.getElem_cons_zero]); go_simp; (try with_reducible rfl))
          try simp only [Act.put, List.setIfInBounds_toArray, List.set_cons_zero, List.set_cons_succ, List.getElem_toArray, List.getElem_cons_succ, List.getElem_cons_zero]
          refine wpAnyH_take (i := 5) (v := ?hv5) rfl (by kernel_rfl) (by kernel_rfl) (by kernel_rfl) (fun _ _ _ h => h) (Or.inl ⟨by rfl, ?hy5⟩) (by assumption) ?_
          case hy5 => (intro w hSw; (try dsimp only at hSw); obtain ⟨s0, s1, s2, s3, s4, s5, s6, s7, s8, s9, s10, s11, s12, s13, s14, s15, s16, s17, s18, s19, sB⟩ := hSw; (try simp only [List.getElem_toArray, List.getElem_cons_succ, List.getElem_cons_zero]); go_simp; (try with_reducible rfl))
          try simp only [Act.put, List.setIfInBounds_toArray, List.set_cons_zero, List.set_cons_succ, List.getElem_toArray, List.getElem_cons_succ, List.getElem_cons_zero]
          refine wpAnyH_ready (rs := [2]) (by kernel_rfl) (by simp) ?_
          refine AllReadyH.cons rfl (fun K hK => ?_) AllReadyH.nil
          try simp only [List.getElem_toArray, List.getElem_cons_succ, List.getElem_cons_zero]
          go_simp
          (go_at_call 50; (with_reducible refine (HUU.out _ K0.out.b).mono ?_); rintro _ w9 ⟨rfl, hb1⟩; have K1 := Lib.hid (K0.out.step hb1))
          refine hK.out _ _ ?hk2 (fun hHeld => ?_)
          case hk2 => (first | with_reducible assumption | exact H17.out | exact step20 (Nat.le_refl _) (by assumption) hb1)
          clear hK K
          try simp only [Act.put, List.setIfInBounds_toArray, List.set_cons_zero, List.set_cons_succ, List.getElem_toArray, List.getElem_cons_succ, List.getElem_cons_zero]
          refine wpAnyH_ready (rs := [3]) (by kernel_rfl) (by simp) ?_
          refine AllReadyH.cons rfl (fun K hK => ?_) AllReadyH.nil
          try simp only [List.getElem_toArray, List.getElem_cons_succ, List.getElem_cons_zero]
          go_simp
          (go_at_call 54; (with_reducible refine (HC2.out _).mono ?_); rintro _ _ ⟨rfl, rfl⟩)
          refine hK.out _ _ ?hk3 (fun hHeld => ?_)
          case hk3 => (first | with_reducible assumption | exact H17.out | exact step20 (Nat.le_refl _) (by assumption) hb1)
          clear hK K
          try simp only [Act.put, List.setIfInBounds_toArray, List.set_cons_zero, List.set_cons_succ, List.getElem_toArray, List.getElem_cons_succ, List.getElem_cons_zero]
          refine wpAnyH_take (i := 6) (v := ?hv6) rfl (by kernel_rfl) (by kernel_rfl) (by kernel_rfl) (fun _ _ _ h => h) (Or.inl ⟨by rfl, ?hy6⟩) (by assumption) ?_
          case hy6 => (intro w hSw; (try dsimp only at hSw); obtain ⟨s0, s1, s2, s3, s4, s5, s6, s7, s8, s9, s10, s11, s12, s13, s14, s15, s16, s17, s18, s19, sB⟩ := hSw; (try simp only [List.getElem_toArray, List.getElem_cons_succ, List.getElem_cons_zero]); go_simp; (try with_reducible rfl))
          try simp only [Act.put, List.setIfInBounds_toArray, List.set_cons_zero, List.set_cons_succ, List.getElem_toArray, List.getElem_cons_succ, List.getElem_cons_zero]
          refine wpAnyH_take (i := 7) (v := ?hv7) rfl (by kernel_rfl) (by kernel_rfl) (by kernel_rfl) (fun _ _ _ h => h) (Or.inl ⟨by rfl, ?hy7⟩) (by assumption) ?_
          case hy7 => (intro w hSw; (try dsimp only at hSw); obtain ⟨s0, s1, s2, s3, s4, s5, s6, s7, s8, s9, s10, s11, s12, s13, s14, s15, s16, s17, s18, s19, sB⟩ := hSw; (try simp only [List.getElem_toArray, List.getElem_cons_succ, List.getElem_cons_zero]); go_simp; (try with_reducible rfl))
          try simp only [Act.put, List.setIfInBounds_toArray, List.set_cons_zero, List.set_cons_succ, List.getElem_toArray, List.getElem_cons_succ, List.getElem_cons_zero]
          refine wpAnyH_take (i := 8) (v := ?hv8) rfl (by kernel_rfl) (by kernel_rfl) (by kernel_rfl) (fun _ _ _ h => h) (Or.inl ⟨by rfl, ?hy8⟩) (by assumption) ?_
          case hy8 => (intro w hSw; (try dsimp only at hSw); obtain ⟨s0, s1, s2, s3, s4, s5, s6, s7, s8, s9, s10, s11, s12, s13, s14, s15, s16, s17, s18, s19, sB⟩ := hSw; (try simp only [List.getElem_toArray, List.getElem_cons_succ, List.getElem_cons_zero]); go_simp; (try with_reducible rfl))
          try simp only [Act.put, List.setIfInBounds_toArray, List.set_cons_zero, List.set_cons_succ, List.getElem_toArray, List.getElem_cons_succ, List.getElem_cons_zero]
          refine wpAnyH_take (i := 9) (v := ?hv9) rfl (by kernel_rfl) (by kernel_rfl) (by kernel_rfl) (fun _ _ _ h => h) (Or.inl ⟨by rfl, ?hy9⟩) (by assumption) ?_
          case hy9 => (intro w hSw; (try dsimp only at hSw); obtain ⟨s0, s1, s2, s3, s4, s5, s6, s7, s8, s9, s10, s11, s12, s13, s14, s15, s16, s17, s18, s19, sB⟩ := hSw; (try simp only [List.getElem_toArray, List.getElem_cons_succ, List.getElem_cons_zero]); go_simp; (try with_reducible rfl))
          try simp only [Act.put, List.setIfInBounds_toArray, List.set_cons_zero, List.set_cons_succ, List.getElem_toArray, List.getElem_cons_succ, List.getElem_cons_zero]
          refine wpAnyH_ready (rs := [10]) (by kernel_rfl) (by simp) ?_
          refine AllReadyH.cons rfl (fun K hK => ?_) AllReadyH.nil
          try simp only [List.getElem_toArray, List.getElem_cons_succ, List.getElem_cons_zero]
          go_simp
          (clear hb1; go_at_call 52; (with_reducible refine (HPP.out _ K1.out.b).mono ?_); rintro _ w10 ⟨rfl, hb1⟩; have K2 := Lib.hid (K1.out.step hb1))
          refine hK.out _ _ ?hk10 (fun hHeld => ?_)
          case hk10 => (first | with_reducible assumption | exact H17.out | exact step20 (Nat.le_refl _) (by assumption) hb1)
          clear hK K
          try simp only [Act.put, List.setIfInBounds_toArray, List.set_cons_zero, List.set_cons_succ, List.getElem_toArray, List.getElem_cons_succ, List.getElem_cons_zero]
          refine wpAnyH_ready (rs := [11]) (by kernel_rfl) (by simp) ?_
          refine AllReadyH.cons rfl (fun K hK => ?_) AllReadyH.nil
          try simp only [List.getElem_toArray, List.getElem_cons_succ, List.getElem_cons_zero]
          go_simp
          (go_at_call 54; (with_reducible refine (HC3.out _).mono ?_); rintro _ _ ⟨rfl, rfl⟩)
          refine hK.out _ _ ?hk11 (fun hHeld => ?_)
          case hk11 => (first | with_reducible assumption | exact H17.out | exact step20 (Nat.le_refl _) (by assumption) hb1)
          clear hK K
          try simp only [Act.put, List.setIfInBounds_toArray, List.set_cons_zero, List.set_cons_succ, List.getElem_toArray, List.getElem_cons_succ, List.getElem_cons_zero]
          refine wpAnyH_take (i := 12) (v := ?hv12) rfl (by kernel_rfl) (by kernel_rfl) (by kernel_rfl) (fun _ _ _ h => h) (Or.inl ⟨by rfl, ?hy12⟩) (by assumption) ?_
          case hy12 => (intro w hSw; (try dsimp only at hSw); obtain ⟨s0, s1, s2, s3, s4, s5, s6, s7, s8, s9, s10, s11, s12, s13, s14, s15, s16, s17, s18, s19, sB⟩ := hSw; (try simp only [List.getElem_toArray, List.getElem_cons_succ, List.getElem_cons_zero]); go_simp; (try with_reducible rfl))
          try simp only [Act.put, List.setIfInBounds_toArray, List.set_cons_zero, List.set_cons_succ, List.getElem_toArray, List.getElem_cons_succ, List.getElem_cons_zero]
          refine wpAnyH_take (i := 13) (v := ?hv13) rfl (by kernel_rfl) (by kernel_rfl) (by kernel_rfl) (fun _ _ _ h => h) (Or.inl ⟨by rfl, ?hy13⟩) (by assumption) ?_
          case hy13 => (intro w hSw; (try dsimp only at hSw); obtain ⟨s0, s1, s2, s3, s4, s5, s6, s7, s8, s9, s10, s11, s12, s13, s14, s15, s16, s17, s18, s19, sB⟩ := hSw; (try simp only [List.getElem_toArray, List.getElem_cons_succ, List.getElem_cons_zero]); go_simp; (try with_reducible rfl))
          try simp only [Act.put, List.setIfInBounds_toArray, List.set_cons_zero, List.set_cons_succ, List.getElem_toArray, List.getElem_cons_succ, List.getElem_cons_zero]
          refine wpAnyH_take (i := 14) (v := ?hv14) rfl (by kernel_rfl) (by kernel_rfl) (by kernel_rfl) (fun _ _ _ h => h) (Or.inl ⟨by rfl, ?hy14⟩) (by assumption) ?_
          case hy14 => (intro w hSw; (try dsimp only at hSw); obtain ⟨s0, s1, s2, s3, s4, s5, s6, s7, s8, s9, s10, s11, s12, s13, s14, s15, s16, s17, s18, s19, sB⟩ := hSw; (try simp only [List.getElem_toArray, List.getElem_cons_succ, List.getElem_cons_zero]); go_simp; (try with_reducible rfl))
          try simp only [Act.put, List.setIfInBounds_toArray, List.set_cons_zero, List.set_cons_succ, List.getElem_toArray, List.getElem_cons_succ, List.getElem_cons_zero]
          refine wpAnyH_take (i := 15) (v := ?hv15) rfl (by kernel_rfl) (by kernel_rfl) (by kernel_rfl) (fun _ _ _ h => h) (Or.inl ⟨by rfl, ?hy15⟩) (by assumption) ?_
          case hy15 => (intro w hSw; (try dsimp only at hSw); obtain ⟨s0, s1, s2, s3, s4, s5, s6, s7, s8, s9, s10, s11, s12, s13, s14, s15, s16, s17, s18, s19, sB⟩ := hSw; (try simp only [List.getElem_toArray, List.getElem_cons_succ, List.getElem_cons_zero]); go_simp; (try with_reducible rfl))
          try simp only [Act.put, List.setIfInBounds_toArray, List.set_cons_zero, List.set_cons_succ, List.getElem_toArray, List.getElem_cons_succ, List.getElem_cons_zero]
          refine wpAnyH_take (i := 16) (v := ?hv16) rfl (by kernel_rfl) (by kernel_rfl) (by kernel_rfl) (fun _ _ _ h => h) (Or.inl ⟨by rfl, ?hy16⟩) (by assumption) ?_
          case hy16 => (intro w hSw; (try dsimp only at hSw); obtain ⟨s0, s1, s2, s3, s4, s5, s6, s7, s8, s9, s10, s11, s12, s13, s14, s15, s16, s17, s18, s19, sB⟩ := hSw; (try simp only [List.getElem_toArray, List.getElem_cons_succ, List.getElem_cons_zero]); go_simp; (try with_reducible rfl))
          try simp only [Act.put, List.setIfInBounds_toArray, List.set_cons_zero, List.set_cons_succ, List.getElem_toArray, List.getElem_cons_succ, List.getElem_cons_zero]
          refine wpAnyH_take (i := 17) (v := ?hv17) rfl (by kernel_rfl) (by kernel_rfl) (by kernel_rfl) (fun _ _ _ h => h) (Or.inl ⟨by rfl, ?hy17⟩) (by assumption) ?_
          case hy17 => (intro w hSw; (try dsimp only at hSw); obtain ⟨s0, s1, s2, s3, s4, s5, s6, s7, s8, s9, s10, s11, s12, s13, s14, s15, s16, s17, s18, s19, sB⟩ := hSw; (try simp only [List.getElem_toArray, List.getElem_cons_succ, List.getElem_cons_zero]); go_simp; (try with_reducible rfl))
          try simp only [Act.put, List.setIfInBounds_toArray, List.set_cons_zero, List.set_cons_succ, List.getElem_toArray, List.getElem_cons_succ, List.getElem_cons_zero]
          refine wpAnyH_take (i := 18) (v := ?hv18) rfl (by kernel_rfl) (by kernel_rfl) (by kernel_rfl) (fun _ _ _ h => h) (Or.inl ⟨by rfl, ?hy18⟩) (by assumption) ?_
          case hy18 => (intro w hSw; (try dsimp only at hSw); obtain ⟨s0, s1, s2, s3, s4, s5, s6, s7, s8, s9, s10, s11, s12, s13, s14, s15, s16, s17, s18, s19, sB⟩ := hSw; (try simp only [List.getElem_toArray, List.getElem_cons_succ, List.getElem_cons_zero]); go_simp; (try with_reducible rfl))
          try simp only [Act.put, List.setIfInBounds_toArray, List.set_cons_zero, List.set_cons_succ, List.getElem_toArray, List.getElem_cons_succ, List.getElem_cons_zero]
          refine wpAnyH_take (i := 19) (v := undef) rfl (by kernel_rfl) (by kernel_rfl) (by kernel_rfl) (fun _ _ _ h => h) (Or.inr ⟨by rfl, rfl⟩) (by assumption) ?_
          try simp only [Act.put, List.setIfInBounds_toArray, List.set_cons_zero, List.set_cons_succ, List.getElem_toArray, List.getElem_cons_succ, List.getElem_cons_zero]
          refine wpAnyH_take (i := 20) (v := undef) rfl (by kernel_rfl) (by kernel_rfl) (by kernel_rfl) (fun _ _ _ h => h) (Or.inr ⟨by rfl, rfl⟩) (by assumption) ?_
          try simp only [Act.put, List.setIfInBounds_toArray, List.set_cons_zero, List.set_cons_succ, List.getElem_toArray, List.getElem_cons_succ, List.getElem_cons_zero]
          refine wpAnyH_take (i := 21) (v := undef) rfl (by kernel_rfl) (by kernel_rfl) (by kernel_rfl) (fun _ _ _ h => h) (Or.inr ⟨by rfl, rfl⟩) (by assumption) ?_
          try simp only [Act.put, List.setIfInBounds_toArray, List.set_cons_zero, List.set_cons_succ, List.getElem_toArray, List.getElem_cons_succ, List.getElem_cons_zero]
          refine wpAnyH_take (i := 22) (v := undef) rfl (by kernel_rfl) (by kernel_rfl) (by kernel_rfl) (fun _ _ _ h => h) (Or.inr ⟨by rfl, rfl⟩) (by assumption) ?_
          try simp only [Act.put, List.setIfInBounds_toArray, List.set_cons_zero, List.set_cons_succ, List.getElem_toArray, List.getElem_cons_succ, List.getElem_cons_zero]
          refine wpAnyH_take (i := 23) (v := undef) rfl (by kernel_rfl) (by kernel_rfl) (by kernel_rfl) (fun _ _ _ h => h) (Or.inr ⟨by rfl, rfl⟩) (by assumption) ?_
          try simp only [Act.put, List.setIfInBounds_toArray, List.set_cons_zero, List.set_cons_succ, List.getElem_toArray, List.getElem_cons_succ, List.getElem_cons_zero]
          refine wpAnyH_take (i := 24) (v := undef) rfl (by kernel_rfl) (by kernel_rfl) (by kernel_rfl) (fun _ _ _ h => h) (Or.inr ⟨by rfl, rfl⟩) (by assumption) ?_
          try simp only [Act.put, List.setIfInBounds_toArray, List.set_cons_zero, List.set_cons_succ, List.getElem_toArray, List.getElem_cons_succ, List.getElem_cons_zero]
          refine wpAnyH_take (i := 25) (v := undef) rfl (by kernel_rfl) (by kernel_rfl) (by kernel_rfl) (fun _ _ _ h => h) (Or.inr ⟨by rfl, rfl⟩) (by assumption) ?_
          try simp only [Act.put, List.setIfInBounds_toArray, List.set_cons_zero, List.set_cons_succ, List.getElem_toArray, List.getElem_cons_succ, List.getElem_cons_zero]
          refine wpAnyH_take (i := 26) (v := undef) rfl (by kernel_rfl) (by kernel_rfl) (by kernel_rfl) (fun _ _ _ h => h) (Or.inr ⟨by rfl, rfl⟩) (by assumption) ?_
          try simp only [Act.put, List.setIfInBounds_toArray, List.set_cons_zero, List.set_cons_succ, List.getElem_toArray, List.getElem_cons_succ, List.getElem_cons_zero]
          refine wpAnyH_take (i := 27) (v := ?hv27) rfl (by kernel_rfl) (by kernel_rfl) (by kernel_rfl) (fun _ _ _ h => h) (Or.inl ⟨by rfl, ?hy27⟩) (by assumption) ?_
          case hy27 => (intro w hSw; (try dsimp only at hSw); obtain ⟨s0, s1, s2, s3, s4, s5, s6, s7, s8, s9, s10, s11, s12, s13, s14, s15, s16, s17, s18, s19, sB⟩ := hSw; (try simp only [List.getElem_toArray, List.getElem_cons_succ, List.getElem_cons_zero]); go_simp; (try with_reducible rfl))
          try simp only [Act.put, List.setIfInBounds_toArray, List.set_cons_zero, List.set_cons_succ, List.getElem_toArray, List.getElem_cons_succ, List.getElem_cons_zero]
          refine wpAnyH_take (i := 28) (v := ?hv28) rfl (by kernel_rfl) (by kernel_rfl) (by kernel_rfl) (fun _ _ _ h => h) (Or.inl ⟨by rfl, ?hy28⟩) (by assumption) ?_
          case hy28 => (intro w hSw; (try dsimp only at hSw); obtain ⟨s0, s1, s2, s3, s4, s5, s6, s7, s8, s9, s10, s11, s12, s13, s14, s15, s16, s17, s18, s19, sB⟩ := hSw; (try simp only [List.getElem_toArray, List.getElem_cons_succ, List.getElem_cons_zero]); go_simp; (try with_reducible rfl))
          try simp only [Act.put, List.setIfInBounds_toArray, List.set_cons_zero, List.set_cons_succ, List.getElem_toArray, List.getElem_cons_succ, List.getElem_cons_zero]
          refine wpAnyH_take (i := 29) (v := ?hv29) rfl (by kernel_rfl) (by kernel_rfl) (by kernel_rfl) (fun _ _ _ h => h) (Or.inl ⟨by rfl, ?hy29⟩) (by assumption) ?_
          case hy29 => (intro w hSw; (try dsimp only at hSw); obtain ⟨s0, s1, s2, s3, s4, s5, s6, s7, s8, s9, s10, s11, s12, s13, s14, s15, s16, s17, s18, s19, sB⟩ := hSw; (try simp only [List.getElem_toArray, List.getElem_cons_succ, List.getElem_cons_zero]); go_simp; (try with_reducible rfl))
          try simp only [Act.put, List.setIfInBounds_toArray, List.set_cons_zero, List.set_cons_succ, List.getElem_toArray, List.getElem_cons_succ, List.getElem_cons_zero]
          refine wpAnyH_done (by kernel_rfl) ?_ _
          refine NoPanic.normal ?_
          go_wp2
          go_ret
          exact ⟨rfl, K2.out.b⟩
end Go.Proofs.YtgmneapgihakgaaGreatDoor
