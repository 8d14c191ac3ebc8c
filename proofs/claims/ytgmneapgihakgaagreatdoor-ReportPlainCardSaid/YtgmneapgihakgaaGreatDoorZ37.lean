/- Texts of one seat, merged. -/
import Derived.Test.YtgmneapgihakgaaGreatDoorZ36
import Derived.Test.YtgmneapgihakgaaGreatDoorRows
import Derived.LaidOnce
import Derived.MakeChecks
import Derived.Lib.LaidTab
set_option maxRecDepth 100000
set_option maxHeartbeats 4000000
set_option linter.unusedVariables false
/- A reply, a dump, a report that are handed in; the powers of ten that are laid. -/
namespace Go.Proofs.YtgmneapgihakgaaGreatDoor
open Go.Joins Go.ChangeShapes Go.WideShapes Go.ChangeAt Go.RowKit Go.Deep
theorem rco_rpl : Tryz.prog.cellsOf 101 = 6 := by kernel_rfl
theorem rco_dmp : Tryz.prog.cellsOf 103 = 5 := by kernel_rfl
theorem rco_chk : Tryz.prog.cellsOf 106 = 9 := by kernel_rfl
theorem rby_q : decide (1 ≤ Tryz.prog.bytesOf 36) = true := by kernel_rfl
theorem rby_b : decide (1 ≤ Tryz.prog.bytesOf 38) = true := by kernel_rfl
theorem rby_m : decide (1 ≤ Tryz.prog.bytesOf 62) = true := by kernel_rfl
theorem sz_row {H : Type} {P : Program} {T e : TypeId} (hu : P.underlying T = some (.slice e)) (hb : decide (1 ≤ P.bytesOf e) = true) {y : DataW H} {n : Nat} (hy : (y = .nil ∧ n = 0) ∨ ∃ es rs, y = .slice es rs ∧ es.length = n) (h : ∀ n ∈ y.weights P T, n ≤ reachBytes) : n ≤ 140737488351232 := by
  rcases hy with ⟨_, rfl⟩ | ⟨es, rs, rfl, rfl⟩
  · omega
  · have h1 := h ((es.length + rs.length) * P.bytesOf e) (by simp [DataW.weights, hu])
    have h2 : reachBytes = 140737488351232 := rfl
    have h3 : es.length * 1 ≤ (es.length + rs.length) * P.bytesOf e := Nat.mul_le_mul (Nat.le_add_right _ _) (of_decide_eq_true hb)
    omega
section
variable {H : Type} {enc : TypeId × Value → H} {W : World} {b1 : Nat} {sp : Nat → Bool} {held : Bool} {k : Nat}
set_option maxRecDepth 100000 in
theorem open_rpl0 {v0 v1 v2 v3 v4 v5 : Value} {y} (h : DataW.trod enc Tryz.prog W b1 sp held k 101 [v0, v1, v2, v3, v4, v5] = some y) : ∃ r : Rpl, v0 = .int .i64 r.e ∧ v1 = .int .u64 r.n ∧ RplB r ∧ SlP (fun n : Nat => .int .u64 n) W v2 r.ids ∧ SlP (fun n : Nat => .int .u64 n) W v3 r.lost ∧ SlP (fun n : Nat => .int .u64 n) W v4 r.dead ∧ SlV cvMs 5 W v5 r.l := by
  obtain ⟨xs, k, hk, hxy, _, hxl, hf'⟩ := DataW.trod_struct Tryz.underlying101 h
  obtain ⟨y0, y1, y2, y3, y4, y5, rfl⟩ := rlst6 xs hxl
  have g0 : DataW.trod enc Tryz.prog W b1 sp held k 43 (([v0, v1, v2, v3, v4, v5].drop 0).take (Tryz.prog.cellsOf 43)) = some y0 := hf' 0 _ rfl
  rw [rco_err] at g0
  obtain ⟨s0, e0, l0, u0⟩ := rone_err (v := v0) g0
  have g1 : DataW.trod enc Tryz.prog W b1 sp held k 34 (([v0, v1, v2, v3, v4, v5].drop 1).take (Tryz.prog.cellsOf 34)) = some y1 := hf' 1 _ rfl
  rw [rco_u64] at g1
  obtain ⟨s1, e1, u1⟩ := rone_u64 (v := v1) g1
  have g2 : DataW.trod enc Tryz.prog W b1 sp held k 99 (([v0, v1, v2, v3, v4, v5].drop 2).take (Tryz.prog.cellsOf 99)) = some y2 := hf' 2 _ rfl
  rw [rco_u64s] at g2
  obtain ⟨s2, u2, x2⟩ := open_n64 (v := v2) g2
  have g3 : DataW.trod enc Tryz.prog W b1 sp held k 99 (([v0, v1, v2, v3, v4, v5].drop 3).take (Tryz.prog.cellsOf 99)) = some y3 := hf' 3 _ rfl
  rw [rco_u64s] at g3
  obtain ⟨s3, u3, x3⟩ := open_n64 (v := v3) g3
  have g4 : DataW.trod enc Tryz.prog W b1 sp held k 99 (([v0, v1, v2, v3, v4, v5].drop 4).take (Tryz.prog.cellsOf 99)) = some y4 := hf' 4 _ rfl
  rw [rco_u64s] at g4
  obtain ⟨s4, u4, x4⟩ := open_n64 (v := v4) g4
  have g5 : DataW.trod enc Tryz.prog W b1 sp held k 59 (([v0, v1, v2, v3, v4, v5].drop 5).take (Tryz.prog.cellsOf 59)) = some y5 := hf' 5 _ rfl
  rw [rco_ms] at g5
  obtain ⟨s5, u5, x5, z5⟩ := open_mss (v := v5) g5
  exact ⟨⟨s0, s1, s2, s3, s4, s5⟩, e0, e1, ⟨l0, u0, u1, u2, u3, u4, u5⟩, x2, x3, x4, x5⟩
set_option maxRecDepth 100000 in
theorem open_dmp0 {v0 v1 v2 v3 v4 : Value} {y} (h : DataW.trod enc Tryz.prog W b1 sp held k 103 [v0, v1, v2, v3, v4] = some y) : ∃ d : Dmp, v0 = .int .u64 d.clock ∧ v1 = .int .u64 d.last ∧ SlV cvQu 5 W v2 d.q ∧ SlV cvBn 4 W v3 d.b ∧ SlV cvMs 5 W v4 d.m ∧ ((∀ n ∈ y.1.weights Tryz.prog 103, n ≤ reachBytes) → DmpB d) := by
  obtain ⟨xs, k, hk, hxy, _, hxl, hf'⟩ := DataW.trod_struct Tryz.underlying103 h
  obtain ⟨y0, y1, y2, y3, y4, rfl⟩ := rlst5 xs hxl
  have g0 : DataW.trod enc Tryz.prog W b1 sp held k 34 (([v0, v1, v2, v3, v4].drop 0).take (Tryz.prog.cellsOf 34)) = some y0 := hf' 0 _ rfl
  rw [rco_u64] at g0
  obtain ⟨s0, e0, u0⟩ := rone_u64 (v := v0) g0
  have g1 : DataW.trod enc Tryz.prog W b1 sp held k 34 (([v0, v1, v2, v3, v4].drop 1).take (Tryz.prog.cellsOf 34)) = some y1 := hf' 1 _ rfl
  rw [rco_u64] at g1
  obtain ⟨s1, e1, u1⟩ := rone_u64 (v := v1) g1
  have g2 : DataW.trod enc Tryz.prog W b1 sp held k 28 (([v0, v1, v2, v3, v4].drop 2).take (Tryz.prog.cellsOf 28)) = some y2 := hf' 2 _ rfl
  rw [rco_qs] at g2
  obtain ⟨s2, u2, x2, z2⟩ := open_qus (v := v2) g2
  have g3 : DataW.trod enc Tryz.prog W b1 sp held k 29 (([v0, v1, v2, v3, v4].drop 3).take (Tryz.prog.cellsOf 29)) = some y3 := hf' 3 _ rfl
  rw [rco_bs] at g3
  obtain ⟨s3, u3, x3, z3⟩ := open_bns (v := v3) g3
  have g4 : DataW.trod enc Tryz.prog W b1 sp held k 59 (([v0, v1, v2, v3, v4].drop 4).take (Tryz.prog.cellsOf 59)) = some y4 := hf' 4 _ rfl
  rw [rco_ms] at g4
  obtain ⟨s4, u4, x4, z4⟩ := open_mss (v := v4) g4
  refine ⟨⟨s0, s1, s2, s3, s4⟩, e0, e1, x2, x3, x4, fun hw => ?_⟩
  rw [hxy] at hw
  simp only [DataW.weights, Tryz.underlying103] at hw
  have hw2 : ∀ n ∈ y2.1.weights Tryz.prog 28, n ≤ reachBytes := fun n hn => hw n (DataW.weights_mem_each (j := 2) rfl rfl n hn)
  have hw3 : ∀ n ∈ y3.1.weights Tryz.prog 29, n ≤ reachBytes := fun n hn => hw n (DataW.weights_mem_each (j := 3) rfl rfl n hn)
  have hw4 : ∀ n ∈ y4.1.weights Tryz.prog 59, n ≤ reachBytes := fun n hn => hw n (DataW.weights_mem_each (j := 4) rfl rfl n hn)
  exact ⟨u0, u1, u2, u3, u4, sz_row Tryz.underlying28 rby_q z2 hw2, sz_row Tryz.underlying29 rby_b z3 hw3, sz_row Tryz.underlying59 rby_m z4 hw4⟩
set_option maxRecDepth 100000 in
theorem open_chk0 {v0 v1 v2 v3 v4 v5 v6 v7 v8 : Value} {y} (h : DataW.trod enc Tryz.prog W b1 sp held k 106 [v0, v1, v2, v3, v4, v5, v6, v7, v8] = some y) : ∃ (c : Chk) (a0 a1 a2 a3 : Option Addr) (k0 k1 k2 k3 : Nat), v0 = .slice a0 c.n0 k0 ∧ v1 = .slice a1 c.n1 k1 ∧ v2 = .slice a2 c.n2 k2 ∧ v3 = .slice a3 c.n3 k3 ∧ SlP (fun n : Nat => .int .u32 n) W v4 c.l4 ∧ SlP (fun n : Nat => .int .u32 n) W v5 c.l5 ∧ v6 = .int .i64 c.pairs ∧ v7 = .int .u64 c.bytes ∧ v8 = .int .i64 c.deep ∧ ChkB c := by
  obtain ⟨xs, k, hk, hxy, _, hxl, hf'⟩ := DataW.trod_struct Tryz.underlying106 h
  obtain ⟨y0, y1, y2, y3, y4, y5, y6, y7, y8, rfl⟩ := rlst9 xs hxl
  have g0 : DataW.trod enc Tryz.prog W b1 sp held k 104 (([v0, v1, v2, v3, v4, v5, v6, v7, v8].drop 0).take (Tryz.prog.cellsOf 104)) = some y0 := hf' 0 _ rfl
  rw [rco_u32s] at g0
  obtain ⟨s0, u0, x0⟩ := open_n32 (v := v0) g0
  have g1 : DataW.trod enc Tryz.prog W b1 sp held k 104 (([v0, v1, v2, v3, v4, v5, v6, v7, v8].drop 1).take (Tryz.prog.cellsOf 104)) = some y1 := hf' 1 _ rfl
  rw [rco_u32s] at g1
  obtain ⟨s1, u1, x1⟩ := open_n32 (v := v1) g1
  have g2 : DataW.trod enc Tryz.prog W b1 sp held k 104 (([v0, v1, v2, v3, v4, v5, v6, v7, v8].drop 2).take (Tryz.prog.cellsOf 104)) = some y2 := hf' 2 _ rfl
  rw [rco_u32s] at g2
  obtain ⟨s2, u2, x2⟩ := open_n32 (v := v2) g2
  have g3 : DataW.trod enc Tryz.prog W b1 sp held k 104 (([v0, v1, v2, v3, v4, v5, v6, v7, v8].drop 3).take (Tryz.prog.cellsOf 104)) = some y3 := hf' 3 _ rfl
  rw [rco_u32s] at g3
  obtain ⟨s3, u3, x3⟩ := open_n32 (v := v3) g3
  have g4 : DataW.trod enc Tryz.prog W b1 sp held k 104 (([v0, v1, v2, v3, v4, v5, v6, v7, v8].drop 4).take (Tryz.prog.cellsOf 104)) = some y4 := hf' 4 _ rfl
  rw [rco_u32s] at g4
  obtain ⟨s4, u4, x4⟩ := open_n32 (v := v4) g4
  have g5 : DataW.trod enc Tryz.prog W b1 sp held k 104 (([v0, v1, v2, v3, v4, v5, v6, v7, v8].drop 5).take (Tryz.prog.cellsOf 104)) = some y5 := hf' 5 _ rfl
  rw [rco_u32s] at g5
  obtain ⟨s5, u5, x5⟩ := open_n32 (v := v5) g5
  have g6 : DataW.trod enc Tryz.prog W b1 sp held k 3 (([v0, v1, v2, v3, v4, v5, v6, v7, v8].drop 6).take (Tryz.prog.cellsOf 3)) = some y6 := hf' 6 _ rfl
  rw [rco_i64] at g6
  obtain ⟨s6, e6, l6, u6⟩ := rone_i64 (v := v6) g6
  have g7 : DataW.trod enc Tryz.prog W b1 sp held k 34 (([v0, v1, v2, v3, v4, v5, v6, v7, v8].drop 7).take (Tryz.prog.cellsOf 34)) = some y7 := hf' 7 _ rfl
  rw [rco_u64] at g7
  obtain ⟨s7, e7, u7⟩ := rone_u64 (v := v7) g7
  have g8 : DataW.trod enc Tryz.prog W b1 sp held k 3 (([v0, v1, v2, v3, v4, v5, v6, v7, v8].drop 8).take (Tryz.prog.cellsOf 3)) = some y8 := hf' 8 _ rfl
  rw [rco_i64] at g8
  obtain ⟨s8, e8, l8, u8⟩ := rone_i64 (v := v8) g8
  obtain ⟨a0, _, _, k0, t0, _, _⟩ := x0
  obtain ⟨a1, _, _, k1, t1, _, _⟩ := x1
  obtain ⟨a2, _, _, k2, t2, _, _⟩ := x2
  obtain ⟨a3, _, _, k3, t3, _, _⟩ := x3
  exact ⟨⟨s0.length, s1.length, s2.length, s3.length, s4, s5, s6, s7, s8⟩, a0, a1, a2, a3, k0, k1, k2, k3, t0, t1, t2, t3, x4, x5, e6, e7, e8, ⟨u4, u5, l6, u6, l8, u8, u7⟩⟩
end
theorem open_rpl {H : Type} {enc : TypeId × Value → H} {W : World} {r : Reach} {b0 b1 : Nat} {sp : Nat → Bool} {held : Bool} {v : Value} {dd : DataW H} {p : List MemPlace}
    (hv : Value.okWide Tryz.prog W r b0 101 v) (h : DataW.Trod enc Tryz.prog W b1 sp held 101 v dd p) : ∃ (x : Rpl) (vi vl vd vm : Value), v = .agg #[.int .i64 x.e, .int .u64 x.n, vi, vl, vd, vm] ∧ RplB x ∧ SlP (fun n : Nat => .int .u64 n) W vi x.ids ∧ SlP (fun n : Nat => .int .u64 n) W vl x.lost ∧ SlP (fun n : Nat => .int .u64 n) W vd x.dead ∧ SlV cvMs 5 W vm x.l := by
  obtain ⟨cs, rfl, hcs⟩ := okWide_struct Tryz.underlying101 hv
  rw [rco_rpl] at hcs
  obtain ⟨fuel, hf⟩ := h
  obtain ⟨v0, v1, v2, v3, v4, v5, hl⟩ := rlst6 cs.toList (by simpa using hcs)
  obtain rfl : cs = #[v0, v1, v2, v3, v4, v5] := by rw [← cs.toArray_toList, hl]
  simp only [Value.cells] at hf
  obtain ⟨x, e0, e1, h1, h2, h3, h4, h5⟩ := open_rpl0 hf
  exact ⟨x, v2, v3, v4, v5, by rw [e0, e1], h1, h2, h3, h4, h5⟩
theorem open_dmp {H : Type} {enc : TypeId × Value → H} {W : World} {r : Reach} {b0 b1 : Nat} {sp : Nat → Bool} {held : Bool} {v : Value} {dd : DataW H} {p : List MemPlace}
    (hv : Value.okWide Tryz.prog W r b0 103 v) (h : DataW.Trod enc Tryz.prog W b1 sp held 103 v dd p) : ∃ (x : Dmp) (vq vb vn : Value), v = .agg #[.int .u64 x.clock, .int .u64 x.last, vq, vb, vn] ∧ SlV cvQu 5 W vq x.q ∧ SlV cvBn 4 W vb x.b ∧ SlV cvMs 5 W vn x.m ∧ ((∀ n ∈ dd.weights Tryz.prog 103, n ≤ reachBytes) → DmpB x) := by
  obtain ⟨cs, rfl, hcs⟩ := okWide_struct Tryz.underlying103 hv
  rw [rco_dmp] at hcs
  obtain ⟨fuel, hf⟩ := h
  obtain ⟨v0, v1, v2, v3, v4, hl⟩ := rlst5 cs.toList (by simpa using hcs)
  obtain rfl : cs = #[v0, v1, v2, v3, v4] := by rw [← cs.toArray_toList, hl]
  simp only [Value.cells] at hf
  obtain ⟨x, e0, e1, h1, h2, h3, h4⟩ := open_dmp0 hf
  exact ⟨x, v2, v3, v4, by rw [e0, e1], h1, h2, h3, h4⟩
theorem open_chk {H : Type} {enc : TypeId × Value → H} {W : World} {r : Reach} {b0 b1 : Nat} {sp : Nat → Bool} {held : Bool} {v : Value} {dd : DataW H} {p : List MemPlace}
    (hv : Value.okWide Tryz.prog W r b0 106 v) (h : DataW.Trod enc Tryz.prog W b1 sp held 106 v dd p) : ∃ (x : Chk) (a0 a1 a2 a3 : Option Addr) (k0 k1 k2 k3 : Nat) (v4 v5 : Value), v = .agg #[.slice a0 x.n0 k0, .slice a1 x.n1 k1, .slice a2 x.n2 k2, .slice a3 x.n3 k3, v4, v5, .int .i64 x.pairs, .int .u64 x.bytes, .int .i64 x.deep] ∧ SlP (fun n : Nat => .int .u32 n) W v4 x.l4 ∧ SlP (fun n : Nat => .int .u32 n) W v5 x.l5 ∧ ChkB x := by
  obtain ⟨cs, rfl, hcs⟩ := okWide_struct Tryz.underlying106 hv
  rw [rco_chk] at hcs
  obtain ⟨fuel, hf⟩ := h
  obtain ⟨v0, v1, v2, v3, v4, v5, v6, v7, v8, hl⟩ := rlst9 cs.toList (by simpa using hcs)
  obtain rfl : cs = #[v0, v1, v2, v3, v4, v5, v6, v7, v8] := by rw [← cs.toArray_toList, hl]
  simp only [Value.cells] at hf
  obtain ⟨x, a0, a1, a2, a3, k0, k1, k2, k3, e0, e1, e2, e3, h4, h5, e6, e7, e8, hb⟩ := open_chk0 hf
  exact ⟨x, a0, a1, a2, a3, k0, k1, k2, k3, v4, v5, by rw [e0, e1, e2, e3, e6, e7, e8], h4, h5, hb⟩
theorem gPow : (Tryz.prog.globalNamed "internal/strconv.uint64pow10").bind (fun g => (Tryz.prog.globals[g]?).map (·.type)) = some 362 := by kernel_rfl
theorem cPow : Tryz.prog.cellsOf 362 = 20 := by kernel_rfl
theorem tb_of_laid {W : World} {n0 n1 n3 n4 : String} {d0 d1 d3 d4 : DataW Unit} (h : laidMet Tryz.prog [(n0, d0), (n1, d1), ("internal/strconv.uint64pow10", Rows.laid_internal_strconv_uint64pow10), (n3, d3), (n4, d4)] W) : Tb W := by
  obtain ⟨ps, ⟨_, _, _, _, _, _, _, _, _, _, ⟨_, _, _, _, _, _, _, _, _, _, ⟨g, t, cs, fuel, p, q, hg, ht, hvar, hd, _, _⟩, _⟩, _⟩, _⟩ := h
  have hT := gPow
  rw [hg] at hT
  obtain rfl := Option.some.inj (ht.symm.trans hT)
  have hd' : DataW.trod (fun _ => ()) Tryz.prog W 0 (fun _ => true) false fuel 362 cs.toList = some (Lib.tabData .u64 Lib.pow10Tab, p) := hd
  unfold Tb Lib.TabIs
  have e := Lib.cells_of_tab Tryz.underlying362 Tryz.underlying34 rco_u64 cPow hd'
  rw [hvar, ← e, Array.toArray_toList]
end Go.Proofs.YtgmneapgihakgaaGreatDoor
