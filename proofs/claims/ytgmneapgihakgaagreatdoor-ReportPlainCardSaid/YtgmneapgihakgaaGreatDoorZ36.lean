/- Texts of one seat, merged. -/
import Derived.Test.YtgmneapgihakgaaGreatDoorZ35
import Derived.Test.YtgmneapgihakgaaGreatDoorZ30
import Derived.Test.YtgmneapgihakgaaGreatDoorZ33
import Derived.SizedLaws
import Derived.ProofKit
import Derived.OpenShut
import Derived.ChangeArms
import Derived.ChangeSlices
import Derived.ChangeOld
import Derived.Carry
import Derived.Deep.Slices
import Derived.Lib.SmallJoins
import Derived.WalkKit
set_option maxRecDepth 100000
set_option maxHeartbeats 4000000
set_option linter.unusedVariables false
/- ReportPlain: the law, whole. -/
namespace Go.Proofs.YtgmneapgihakgaaGreatDoor
open Go.RowKit
theorem rplT_len (r : Rpl) (h : RplB r) (hl : LightR r.l r.ids.length r.lost.length r.dead.length) : (rplT r).length ≤ 100000000 := by
  unfold rplT
  split
  · have hM : ∀ m ∈ r.l, OkM m := fun m hm => by
      have a := hl.ms m hm
      have b := h.l m hm
      exact ⟨by omega, a.2.2, b.1, b.2.1, b.2.2⟩
    have h40 : r.l.length ≤ 40 := by
      rcases hrl : r.l with _ | ⟨x, t⟩
      · simp
      · have := (hl.ms x (by rw [hrl]; simp)).1
        rw [hrl] at this; exact this
    have : ∀ l : List Ms, (∀ m ∈ l, OkM m) → (tailF msT l).length ≤ l.length * 30003 := by
      intro l
      induction l with
      | nil => intro _; simp [tailF]
      | cons x t ih =>
        intro hx
        have i1 := ih (fun y hy => hx y (by simp [hy]))
        have i2 := msT_len x (hx x (by simp))
        have e : tailF msT (x :: t) = [10, 32, 32] ++ msT x ++ tailF msT t := by simp [tailF]
        rw [e, List.length_cons, Nat.add_mul]
        simp only [List.length_append, List.length_cons, List.length_nil]
        omega
    have h1 := this r.l hM
    have b40 : r.l.length * 30003 ≤ 40 * 30003 := Nat.mul_le_mul_right _ h40
    have z0 := dec_len r.n h.n
    have z1 := someT_len [32, 105, 100, 115] r.ids h.ids
    have z2 := someT_len [32, 108, 111, 115, 116] r.lost h.lost
    have z3 := someT_len [32, 100, 101, 97, 100] r.dead h.dead
    have y1 := hl.i
    have y2 := hl.lo
    have y3 := hl.de
    unfold headT
    simp only [List.length_append, List.length_cons, List.length_nil] at z1 z2 z3 ⊢
    omega
  · have := decI_len r.e h.e0 h.e1
    unfold errT
    simp only [List.length_append, List.length_cons, List.length_nil]
    omega
theorem dmp_40 (d : Dmp) (hl : DLightR d.q d.b d.m) : d.q.length + d.b.length + d.m.length ≤ 40 := by
  rcases hq : d.q with _ | ⟨x, t⟩
  · rcases hb : d.b with _ | ⟨x, t⟩
    · rcases hm : d.m with _ | ⟨x, t⟩
      · simp
      · have := (hl.m x (by rw [hm]; simp)).1; rw [hq, hb, hm] at this; exact this
    · have := (hl.b x (by rw [hb]; simp)).1; rw [hq, hb] at this; exact this
  · have := (hl.q x (by rw [hq]; simp)).1; rw [hq] at this; exact this
theorem dmpT_len (d : Dmp) (h : DmpB d) (hl : DLightR d.q d.b d.m) : (dmpT d).length ≤ 100000000 := by
  have n40 := dmp_40 d hl
  have a0 := dec_len d.clock h.c
  have a1 := dec_len d.last h.la
  have a2 := linesF_most quT 30000 d.q (fun x hx => quT_len x (by have a := hl.q x hx; have b := h.q x hx; exact ⟨by omega, by omega, b.1, b.2.1, b.2.2⟩))
  have a3 := linesF_most bnT 31000 d.b (fun x hx => bnT_len x (by have a := hl.b x hx; have b := h.b x hx; exact ⟨by omega, by omega, by omega, b.1, b.2⟩))
  have a4 := linesF_most msT 30000 d.m (fun x hx => msT_len x (by have a := hl.m x hx; have b := h.m x hx; exact ⟨by omega, by omega, b.1, b.2.1, b.2.2⟩))
  have b2 : d.q.length * (30000 + 1) ≤ 40 * (30000 + 1) := Nat.mul_le_mul_right _ (by omega)
  have b3 : d.b.length * (31000 + 1) ≤ 40 * (31000 + 1) := Nat.mul_le_mul_right _ (by omega)
  have b4 : d.m.length * (30000 + 1) ≤ 40 * (30000 + 1) := Nat.mul_le_mul_right _ (by omega)
  unfold dmpT dumT
  simp only [List.length_append, List.length_cons, List.length_nil]
  omega
theorem chkT_len (c : Chk) (h : ChkB c) (hl : FewR c) : (chkT c).length ≤ 100000000 := by
  obtain ⟨h0, h1, h2, h3, h4, h5⟩ := hl
  have i0 := decI_len c.n0 (by omega) (by omega)
  have i1 := decI_len c.n1 (by omega) (by omega)
  have i2 := decI_len c.n2 (by omega) (by omega)
  have i3 := decI_len c.n3 (by omega) (by omega)
  have i4 := someT_len [44, 32, 108, 111, 115, 116] c.l4 (fun n hn => by have := h.b4 n hn; omega)
  have i5 := someT_len [44, 32, 116, 119, 105, 99, 101] c.l5 (fun n hn => by have := h.b5 n hn; omega)
  have i6 := decI_len c.pairs h.p0 h.p1
  have i7 := dec_len c.bytes h.bytes
  have i8 := decI_len c.deep h.q0 h.q1
  unfold chkT pagT
  simp only [List.length_append, List.length_cons, List.length_nil] at i4 i5 ⊢
  omega
/-- What is handed in, as it lies. -/
structure Hand (r : Rpl) (d : Dmp) (c : Chk) (w : World) (vi vl vd vm vq vb vn v4 v5 : Value) : Prop where
  rb : RplB r
  db : DmpB d
  cb : ChkB c
  si : SlP (fun n : Nat => .int .u64 n) w vi r.ids
  slo : SlP (fun n : Nat => .int .u64 n) w vl r.lost
  sd : SlP (fun n : Nat => .int .u64 n) w vd r.dead
  sl : SlV cvMs 5 w vm r.l
  sq : SlV cvQu 5 w vq d.q
  sb : SlV cvBn 4 w vb d.b
  sm : SlV cvMs 5 w vn d.m
  s4 : SlP (fun n : Nat => .int .u32 n) w v4 c.l4
  s5 : SlP (fun n : Nat => .int .u32 n) w v5 c.l5
theorem plain_walk (r : Rpl) (d : Dmp) (c : Chk) (vi vl vd vm vq vb vn v4 v5 : Value) (a0 a1 a2 a3 : Option Addr) (k0 k1 k2 k3 : Nat) (mx : Int) (w : World) (hm : w.cell? ⟨0, 0, none⟩ = some (.int .i64 mx)) (ht : Tb w) (H : Hand r d c w vi vl vd vm vq vb vn v4 v5) :
    Calls Tryz.prog 8 #[.agg #[.int .i64 r.e, .int .u64 r.n, vi, vl, vd, vm], .agg #[.int .u64 d.clock, .int .u64 d.last, vq, vb, vn], .agg #[.slice a0 c.n0 k0, .slice a1 c.n1 k1, .slice a2 c.n2 k2, .slice a3 c.n3 k3, v4, v5, .int .i64 c.pairs, .int .u64 c.bytes, .int .i64 c.deep]] w
      fun e w' => e = .returned (.bool true) ∧ Below w.heap.size w w' := by
  have hc : ∀ W, Below w.heap.size w W → W.cell? ⟨0, 0, none⟩ = some (.int .i64 mx) := fun W hW => (hW.cell (p := ⟨0, 0, none⟩) (World.block_lt_of_cell? _ _ hm)).trans hm
  have HA : ∀ W, Below w.heap.size w W → Calls Tryz.prog 39 #[] W fun e w' => e = .returned (.bool true) ∧ Below W.heap.size W w' := fun W hW => rpAwake_any mx W (hc W hW)
  obtain ⟨ar, br, or', cr, hvm, gr1, gr2, gr3, gr4⟩ := H.sl.get
  obtain ⟨aq, bq, oq, cq, hvq, gq1, gq2, gq3, gq4⟩ := H.sq.get
  obtain ⟨ab, bb, ob, cb, hvb, gb1, gb2, gb3, gb4⟩ := H.sb.get
  obtain ⟨an, bn, on, cn, hvn, gn1, gn2, gn3, gn4⟩ := H.sm.get
  obtain ⟨ai, bi, oi, ci, hvi, gi1, gi2⟩ := H.si
  obtain ⟨al, bl, ol, cl, hvl, gl1, gl2⟩ := H.slo
  obtain ⟨ad, bd, od, cd, hvd, gd1, gd2⟩ := H.sd
  obtain ⟨a4, b4, o4, k4, hv4, g41, g42⟩ := H.s4
  obtain ⟨a5, b5, o5, k5, hv5, g51, g52⟩ := H.s5
  subst hvm hvq hvb hvn hvi hvl hvd hv4 hv5
  have HL := fun W (hW : Below w.heap.size w W) => light_any r.e r.n r.ids.length r.lost.length r.dead.length ci cl cd ai al ad _ r.l W (H.sl.below hW)
  have HD := fun W (hW : Below w.heap.size w W) => dlight_any d.clock d.last _ _ _ d.q d.b d.m W (H.sq.below hW) (H.sb.below hW) (H.sm.below hW) H.db.zq H.db.zb H.db.zm
  have HF := fun W (hW : Below w.heap.size w W) => few_any a0 a1 a2 a3 a4 a5 c.n0 c.n1 c.n2 c.n3 c.l4.length c.l5.length k0 k1 k2 k3 k4 k5 c.pairs c.deep c.bytes W
  by_cases cL : LightR r.l r.ids.length r.lost.length r.dead.length
  · have HL' : ∀ W, Below w.heap.size w W → Calls Tryz.prog 40 #[.agg #[.int .i64 r.e, .int .u64 r.n, .slice ai r.ids.length ci, .slice al r.lost.length cl, .slice ad r.dead.length cd, .slice ar r.l.length cr]] W fun e w' => e = .returned (.bool true) ∧ Below W.heap.size W w' := fun W hW => (HL W hW).mono fun e w' h => ⟨h.2.elim (fun x => absurd cL x.2) (fun x => x.1), h.1⟩
    by_cases cD : DLightR d.q d.b d.m
    · have HD' : ∀ W, Below w.heap.size w W → Calls Tryz.prog 41 #[.agg #[.int .u64 d.clock, .int .u64 d.last, .slice aq d.q.length cq, .slice ab d.b.length cb, .slice an d.m.length cn]] W fun e w' => e = .returned (.bool true) ∧ Below W.heap.size W w' := fun W hW => (HD W hW).mono fun e w' h => ⟨h.2.elim (fun x => absurd cD x.2) (fun x => x.1), h.1⟩
      by_cases cF : FewR c
      · exact plain_core r.e _ _ _ _ _ _ _ _ _ _ _ _ _ _ _ _ _ _ _ _ _ _ _ _ _ _ _ w (rplT r) (dmpT d) (chkT c) _ (rplT_ln r) (ln_dum _ _ _ _ _) (ln_pag _ _ _ _ _ _ _ _ _) (fun he => by rw [if_pos he]) (rplT_len r H.rb cL) (dmpT_len d H.db cD) (chkT_len c H.cb cF) (by have := dmp_40 d cD; omega) HA HL' HD'
          (fun W hW => (HF W hW).mono fun e w' h => ⟨h.2.elim (fun x => absurd cF x.2) (fun x => x.1), h.1⟩)
          (fun W hW => rpl_any r H.rb cL _ _ _ _ W (ht.below hW) (slp_below H.si hW) (slp_below H.slo hW) (slp_below H.sd hW) (H.sl.below hW))
          (fun W hW => dmp_any d H.db cD _ _ _ W (ht.below hW) (H.sq.below hW) (H.sb.below hW) (H.sm.below hW))
          (fun W hW => chk_any c H.cb cF a0 a1 a2 a3 a4 a5 k0 k1 k2 k3 k4 k5 W (ht.below hW) (slp_below H.s4 hW) (slp_below H.s5 hW))
      · exact plain_no3 r.e _ _ _ _ _ _ _ _ _ _ _ _ _ _ _ _ _ _ _ _ _ _ _ _ _ _ _ w HA HL' HD' (fun W hW => (HF W hW).mono fun e w' h => ⟨h.2.elim (fun x => x.1) (fun x => absurd x.2 cF), h.1⟩)
    · exact plain_no2 r.e _ _ _ _ _ _ _ _ _ _ _ _ _ _ _ _ _ _ _ _ _ _ _ _ _ _ _ w HA HL' (fun W hW => (HD W hW).mono fun e w' h => ⟨h.2.elim (fun x => x.1) (fun x => absurd x.2 cD), h.1⟩)
  · exact plain_no1 r.e _ _ _ _ _ _ _ _ _ _ _ _ _ _ _ _ _ _ _ _ _ _ _ _ _ _ _ w HA (fun W hW => (HL W hW).mono fun e w' h => ⟨h.2.elim (fun x => x.1) (fun x => absurd x.2 cL), h.1⟩)
end Go.Proofs.YtgmneapgihakgaaGreatDoor
/- A reply, a dump, a report that are handed in, opened. -/
namespace Go.Proofs.YtgmneapgihakgaaGreatDoor
open Go.Joins Go.ChangeShapes Go.WideShapes Go.ChangeAt Go.RowKit Go.Deep
theorem rbnd_u32 {q : Int} (h : (Lit.int .u32 q).wf = true) : 0 ≤ q ∧ q < 4294967296 := by
  simp [Lit.wf, IntKind.min, IntKind.max, IntKind.signed, IntKind.bits] at h
  omega
theorem rbnd_u64 {q : Int} (h : (Lit.int .u64 q).wf = true) : 0 ≤ q ∧ q < 18446744073709551616 := by
  simp [Lit.wf, IntKind.min, IntKind.max, IntKind.signed, IntKind.bits] at h
  omega
theorem rbnd_i64 {q : Int} (h : (Lit.int .i64 q).wf = true) : -9223372036854775808 ≤ q ∧ q ≤ 9223372036854775807 := by
  simp [Lit.wf, IntKind.min, IntKind.max, IntKind.signed, IntKind.bits] at h
  omega
theorem rco_s : Tryz.prog.cellsOf 9 = 1 := by kernel_rfl
theorem rco_u32 : Tryz.prog.cellsOf 33 = 1 := by kernel_rfl
theorem rco_u64 : Tryz.prog.cellsOf 34 = 1 := by kernel_rfl
theorem rco_i64 : Tryz.prog.cellsOf 3 = 1 := by kernel_rfl
theorem rco_err : Tryz.prog.cellsOf 43 = 1 := by kernel_rfl
theorem rco_q : Tryz.prog.cellsOf 36 = 5 := by kernel_rfl
theorem rco_bd : Tryz.prog.cellsOf 38 = 4 := by kernel_rfl
theorem rco_m : Tryz.prog.cellsOf 62 = 5 := by kernel_rfl
theorem rco_u64s : Tryz.prog.cellsOf 99 = 1 := by kernel_rfl
theorem rco_u32s : Tryz.prog.cellsOf 104 = 1 := by kernel_rfl
theorem rco_qs : Tryz.prog.cellsOf 28 = 1 := by kernel_rfl
theorem rco_bs : Tryz.prog.cellsOf 29 = 1 := by kernel_rfl
theorem rco_ms : Tryz.prog.cellsOf 59 = 1 := by kernel_rfl
theorem rlst4 {α : Type} (l : List α) (h : l.length = 4) : ∃ a0 a1 a2 a3, l = [a0, a1, a2, a3] := by
  rcases l with _ | ⟨a0, _ | ⟨a1, _ | ⟨a2, _ | ⟨a3, _ | ⟨z, l⟩⟩⟩⟩⟩
  all_goals first | (cases h; done) | exact ⟨_, _, _, _, rfl⟩ | (simp at h)
theorem rlst5 {α : Type} (l : List α) (h : l.length = 5) : ∃ a0 a1 a2 a3 a4, l = [a0, a1, a2, a3, a4] := by
  rcases l with _ | ⟨a0, _ | ⟨a1, _ | ⟨a2, _ | ⟨a3, _ | ⟨a4, _ | ⟨z, l⟩⟩⟩⟩⟩⟩
  all_goals first | (cases h; done) | exact ⟨_, _, _, _, _, rfl⟩ | (simp at h)
theorem rlst6 {α : Type} (l : List α) (h : l.length = 6) : ∃ a0 a1 a2 a3 a4 a5, l = [a0, a1, a2, a3, a4, a5] := by
  rcases l with _ | ⟨a0, _ | ⟨a1, _ | ⟨a2, _ | ⟨a3, _ | ⟨a4, _ | ⟨a5, _ | ⟨z, l⟩⟩⟩⟩⟩⟩⟩
  all_goals first | (cases h; done) | exact ⟨_, _, _, _, _, _, rfl⟩ | (simp at h)
theorem rlst9 {α : Type} (l : List α) (h : l.length = 9) : ∃ a0 a1 a2 a3 a4 a5 a6 a7 a8, l = [a0, a1, a2, a3, a4, a5, a6, a7, a8] := by
  rcases l with _ | ⟨a0, _ | ⟨a1, _ | ⟨a2, _ | ⟨a3, _ | ⟨a4, _ | ⟨a5, _ | ⟨a6, _ | ⟨a7, _ | ⟨a8, _ | ⟨z, l⟩⟩⟩⟩⟩⟩⟩⟩⟩⟩
  all_goals first | (cases h; done) | exact ⟨_, _, _, _, _, _, _, _, _, rfl⟩ | (simp at h)
section
variable {H : Type} {enc : TypeId × Value → H} {W : World} {b1 : Nat} {sp : Nat → Bool} {held : Bool} {k : Nat}
theorem rone_s {v : Value} {y} (h : DataW.trod enc Tryz.prog W b1 sp held k 9 [v] = some y) : ∃ s : ByteArray, v = .string s := by
  obtain ⟨s, h1, _, _⟩ := DataW.trod_string Tryz.underlying9 h
  exact ⟨s, by simpa using h1⟩
theorem rone_i64 {v : Value} {y} (h : DataW.trod enc Tryz.prog W b1 sp held k 3 [v] = some y) : ∃ q : Int, v = .int .i64 q ∧ -9223372036854775808 ≤ q ∧ q ≤ 9223372036854775807 := by
  obtain ⟨q, h1, _, w1⟩ := DataW.trod_int Tryz.underlying3 h
  exact ⟨q, by simpa using h1, (rbnd_i64 w1).1, (rbnd_i64 w1).2⟩
theorem rone_err {v : Value} {y} (h : DataW.trod enc Tryz.prog W b1 sp held k 43 [v] = some y) : ∃ q : Int, v = .int .i64 q ∧ -9223372036854775808 ≤ q ∧ q ≤ 9223372036854775807 := by
  obtain ⟨q, h1, _, w1⟩ := DataW.trod_int Tryz.underlying43 h
  exact ⟨q, by simpa using h1, (rbnd_i64 w1).1, (rbnd_i64 w1).2⟩
theorem rone_u32 {v : Value} {y} (h : DataW.trod enc Tryz.prog W b1 sp held k 33 [v] = some y) : ∃ q : Nat, v = .int .u32 q ∧ q < 4294967296 := by
  obtain ⟨q, h1, _, w1⟩ := DataW.trod_int Tryz.underlying33 h
  obtain ⟨m, n⟩ := rbnd_u32 w1
  obtain ⟨N, rfl⟩ := Int.eq_ofNat_of_zero_le m
  exact ⟨N, by simpa using h1, by omega⟩
theorem rone_u64 {v : Value} {y} (h : DataW.trod enc Tryz.prog W b1 sp held k 34 [v] = some y) : ∃ q : Nat, v = .int .u64 q ∧ q < 18446744073709551616 := by
  obtain ⟨q, h1, _, w1⟩ := DataW.trod_int Tryz.underlying34 h
  obtain ⟨m, n⟩ := rbnd_u64 w1
  obtain ⟨N, rfl⟩ := Int.eq_ofNat_of_zero_le m
  exact ⟨N, by simpa using h1, by omega⟩
set_option maxRecDepth 100000 in
theorem open_qu {v0 v1 v2 v3 v4 : Value} {y} (h : DataW.trod enc Tryz.prog W b1 sp held k 36 [v0, v1, v2, v3, v4] = some y) : ∃ q : Qu, bQu q ∧ [v0, v1, v2, v3, v4] = cvQu q := by
  obtain ⟨xs, k, hk, hxy, _, hxl, hf'⟩ := DataW.trod_struct Tryz.underlying36 h
  obtain ⟨y0, y1, y2, y3, y4, rfl⟩ := rlst5 xs hxl
  have g0 : DataW.trod enc Tryz.prog W b1 sp held k 9 (([v0, v1, v2, v3, v4].drop 0).take (Tryz.prog.cellsOf 9)) = some y0 := hf' 0 _ rfl
  rw [rco_s] at g0
  obtain ⟨s0, e0⟩ := rone_s (v := v0) g0
  have g1 : DataW.trod enc Tryz.prog W b1 sp held k 33 (([v0, v1, v2, v3, v4].drop 1).take (Tryz.prog.cellsOf 33)) = some y1 := hf' 1 _ rfl
  rw [rco_u32] at g1
  obtain ⟨s1, e1, u1⟩ := rone_u32 (v := v1) g1
  have g2 : DataW.trod enc Tryz.prog W b1 sp held k 34 (([v0, v1, v2, v3, v4].drop 2).take (Tryz.prog.cellsOf 34)) = some y2 := hf' 2 _ rfl
  rw [rco_u64] at g2
  obtain ⟨s2, e2, u2⟩ := rone_u64 (v := v2) g2
  have g3 : DataW.trod enc Tryz.prog W b1 sp held k 33 (([v0, v1, v2, v3, v4].drop 3).take (Tryz.prog.cellsOf 33)) = some y3 := hf' 3 _ rfl
  rw [rco_u32] at g3
  obtain ⟨s3, e3, u3⟩ := rone_u32 (v := v3) g3
  have g4 : DataW.trod enc Tryz.prog W b1 sp held k 9 (([v0, v1, v2, v3, v4].drop 4).take (Tryz.prog.cellsOf 9)) = some y4 := hf' 4 _ rfl
  rw [rco_s] at g4
  obtain ⟨s4, e4⟩ := rone_s (v := v4) g4
  exact ⟨⟨s0, s1, s2, s3, s4⟩, ⟨u1, u2, u3⟩, by rw [e0, e1, e2, e3, e4]; rfl⟩
set_option maxRecDepth 100000 in
theorem open_bn {v0 v1 v2 v3 : Value} {y} (h : DataW.trod enc Tryz.prog W b1 sp held k 38 [v0, v1, v2, v3] = some y) : ∃ q : Bnd, bBn q ∧ [v0, v1, v2, v3] = cvBn q := by
  obtain ⟨xs, k, hk, hxy, _, hxl, hf'⟩ := DataW.trod_struct Tryz.underlying38 h
  obtain ⟨y0, y1, y2, y3, rfl⟩ := rlst4 xs hxl
  have g0 : DataW.trod enc Tryz.prog W b1 sp held k 9 (([v0, v1, v2, v3].drop 0).take (Tryz.prog.cellsOf 9)) = some y0 := hf' 0 _ rfl
  rw [rco_s] at g0
  obtain ⟨s0, e0⟩ := rone_s (v := v0) g0
  have g1 : DataW.trod enc Tryz.prog W b1 sp held k 3 (([v0, v1, v2, v3].drop 1).take (Tryz.prog.cellsOf 3)) = some y1 := hf' 1 _ rfl
  rw [rco_i64] at g1
  obtain ⟨s1, e1, l1, u1⟩ := rone_i64 (v := v1) g1
  have g2 : DataW.trod enc Tryz.prog W b1 sp held k 9 (([v0, v1, v2, v3].drop 2).take (Tryz.prog.cellsOf 9)) = some y2 := hf' 2 _ rfl
  rw [rco_s] at g2
  obtain ⟨s2, e2⟩ := rone_s (v := v2) g2
  have g3 : DataW.trod enc Tryz.prog W b1 sp held k 9 (([v0, v1, v2, v3].drop 3).take (Tryz.prog.cellsOf 9)) = some y3 := hf' 3 _ rfl
  rw [rco_s] at g3
  obtain ⟨s3, e3⟩ := rone_s (v := v3) g3
  exact ⟨⟨s0, s1, s2, s3⟩, ⟨l1, u1⟩, by rw [e0, e1, e2, e3]; rfl⟩
set_option maxRecDepth 100000 in
theorem open_ms {v0 v1 v2 v3 v4 : Value} {y} (h : DataW.trod enc Tryz.prog W b1 sp held k 62 [v0, v1, v2, v3, v4] = some y) : ∃ q : Ms, bMs q ∧ [v0, v1, v2, v3, v4] = cvMs q := by
  obtain ⟨xs, k, hk, hxy, _, hxl, hf'⟩ := DataW.trod_struct Tryz.underlying62 h
  obtain ⟨y0, y1, y2, y3, y4, rfl⟩ := rlst5 xs hxl
  have g0 : DataW.trod enc Tryz.prog W b1 sp held k 9 (([v0, v1, v2, v3, v4].drop 0).take (Tryz.prog.cellsOf 9)) = some y0 := hf' 0 _ rfl
  rw [rco_s] at g0
  obtain ⟨s0, e0⟩ := rone_s (v := v0) g0
  have g1 : DataW.trod enc Tryz.prog W b1 sp held k 34 (([v0, v1, v2, v3, v4].drop 1).take (Tryz.prog.cellsOf 34)) = some y1 := hf' 1 _ rfl
  rw [rco_u64] at g1
  obtain ⟨s1, e1, u1⟩ := rone_u64 (v := v1) g1
  have g2 : DataW.trod enc Tryz.prog W b1 sp held k 33 (([v0, v1, v2, v3, v4].drop 2).take (Tryz.prog.cellsOf 33)) = some y2 := hf' 2 _ rfl
  rw [rco_u32] at g2
  obtain ⟨s2, e2, u2⟩ := rone_u32 (v := v2) g2
  have g3 : DataW.trod enc Tryz.prog W b1 sp held k 34 (([v0, v1, v2, v3, v4].drop 3).take (Tryz.prog.cellsOf 34)) = some y3 := hf' 3 _ rfl
  rw [rco_u64] at g3
  obtain ⟨s3, e3, u3⟩ := rone_u64 (v := v3) g3
  have g4 : DataW.trod enc Tryz.prog W b1 sp held k 9 (([v0, v1, v2, v3, v4].drop 4).take (Tryz.prog.cellsOf 9)) = some y4 := hf' 4 _ rfl
  rw [rco_s] at g4
  obtain ⟨s4, e4⟩ := rone_s (v := v4) g4
  exact ⟨⟨s0, s1, s2, s3, s4⟩, ⟨u1, u2, u3⟩, by rw [e0, e1, e2, e3, e4]; rfl⟩
end
set_option maxRecDepth 100000 in
theorem open_qus {H : Type} {enc : TypeId × Value → H} {W : World} {b1 : Nat} {sp : Nat → Bool} {held : Bool} {k : Nat} {v : Value} {y : DataW H × List MemPlace}
    (hf : DataW.trod enc Tryz.prog W b1 sp held k 28 [v] = some y) :
    ∃ l : List Qu, (∀ x ∈ l, bQu x) ∧ SlV cvQu 5 W v l ∧ ((y.1 = .nil ∧ l.length = 0) ∨ ∃ es rs, y.1 = .slice es rs ∧ es.length = l.length) := by
  rcases open_slice Tryz.underlying28 hf with hcs | ⟨a, len, cap, m, n, D, Pl, hcs, _, hl, hm, hz, hy, hcell⟩
  · have hv := hcs.1
    simp at hv
    subst hv
    exact ⟨[], fun p hp => by simp at hp, SlV.nil _, .inl ⟨by rw [hcs.2], rfl⟩⟩
  · simp at hcs
    subst hcs
    have hlen : len ≤ m := by rw [hz]; split <;> omega
    have each : ∀ i, i < len → ∃ x : Qu, bQu x ∧ ∀ (j : Nat) u, (cvQu x)[j]? = some u → W.cell? (a.add (i * 5 + j)) = some u := by
      intro i hi
      obtain ⟨cs', h1, h2⟩ := hcell i (by omega)
      rw [rco_q] at h1
      obtain ⟨_, hlen', hcc⟩ := World.cells?_some h1
      obtain ⟨w0, w1, w2, w3, w4, rfl⟩ := rlst5 cs' hlen'
      obtain ⟨x, hx, hxe⟩ := open_qu h2
      refine ⟨x, hx, fun j u hu => ?_⟩
      have hj := (List.getElem?_eq_some_iff.1 hu).1
      have c0 := hcc j (by rw [← hxe] at hj; simpa using hj)
      rw [add_add] at c0
      rw [c0, hxe]
      exact hu
    have hyy : ∃ es rs, y.1 = .slice es rs ∧ es.length = len := ⟨_, _, by rw [hy], by simp⟩
    by_cases h0 : len = 0
    · subst h0
      exact ⟨[], fun p hp => by simp at hp, ⟨some a, 0, 0, cap, rfl, by simp, hm, .inl rfl, fun j p hj => by simp at hj⟩, .inr hyy⟩
    · obtain ⟨b, off, spot⟩ := a
      obtain ⟨p0, _, hsp⟩ := each 0 (by omega)
      have hspot : spot = none := by simpa [Addr.add] using World.cell?_spot (hsp 0 _ rfl)
      subst hspot
      have hch : ∃ f : Nat → Qu, ∀ i, i < len → bQu (f i) ∧ ∀ (j : Nat) u, (cvQu (f i))[j]? = some u → W.cell? ((⟨b, off, none⟩ : Addr).add (i * 5 + j)) = some u := by
        classical
        refine ⟨fun i => if hi : i < len then Classical.choose (each i hi) else p0, fun i hi => ?_⟩
        simp only [hi, dif_pos]
        exact Classical.choose_spec (each i hi)
      obtain ⟨f, hfx⟩ := hch
      refine ⟨(List.range len).map f, ?_, ⟨some ⟨b, off, none⟩, b, off, cap, by simp, by simpa using hl, hm, .inr rfl, fun j p hj i u hu => ?_⟩, .inr (by simpa using hyy)⟩
      · intro p hp
        obtain ⟨i, hi, rfl⟩ := List.mem_map.1 hp
        exact (hfx i (List.mem_range.1 hi)).1
      · have hjl : j < len := by
          have := (List.getElem?_eq_some_iff.1 hj).1
          simpa using this
        simp [hjl] at hj
        subst hj
        have c0 := (hfx j hjl).2 i u hu
        rw [add_plain] at c0
        rw [Nat.add_assoc]
        exact c0
set_option maxRecDepth 100000 in
theorem open_bns {H : Type} {enc : TypeId × Value → H} {W : World} {b1 : Nat} {sp : Nat → Bool} {held : Bool} {k : Nat} {v : Value} {y : DataW H × List MemPlace}
    (hf : DataW.trod enc Tryz.prog W b1 sp held k 29 [v] = some y) :
    ∃ l : List Bnd, (∀ x ∈ l, bBn x) ∧ SlV cvBn 4 W v l ∧ ((y.1 = .nil ∧ l.length = 0) ∨ ∃ es rs, y.1 = .slice es rs ∧ es.length = l.length) := by
  rcases open_slice Tryz.underlying29 hf with hcs | ⟨a, len, cap, m, n, D, Pl, hcs, _, hl, hm, hz, hy, hcell⟩
  · have hv := hcs.1
    simp at hv
    subst hv
    exact ⟨[], fun p hp => by simp at hp, SlV.nil _, .inl ⟨by rw [hcs.2], rfl⟩⟩
  · simp at hcs
    subst hcs
    have hlen : len ≤ m := by rw [hz]; split <;> omega
    have each : ∀ i, i < len → ∃ x : Bnd, bBn x ∧ ∀ (j : Nat) u, (cvBn x)[j]? = some u → W.cell? (a.add (i * 4 + j)) = some u := by
      intro i hi
      obtain ⟨cs', h1, h2⟩ := hcell i (by omega)
      rw [rco_bd] at h1
      obtain ⟨_, hlen', hcc⟩ := World.cells?_some h1
      obtain ⟨w0, w1, w2, w3, rfl⟩ := rlst4 cs' hlen'
      obtain ⟨x, hx, hxe⟩ := open_bn h2
      refine ⟨x, hx, fun j u hu => ?_⟩
      have hj := (List.getElem?_eq_some_iff.1 hu).1
      have c0 := hcc j (by rw [← hxe] at hj; simpa using hj)
      rw [add_add] at c0
      rw [c0, hxe]
      exact hu
    have hyy : ∃ es rs, y.1 = .slice es rs ∧ es.length = len := ⟨_, _, by rw [hy], by simp⟩
    by_cases h0 : len = 0
    · subst h0
      exact ⟨[], fun p hp => by simp at hp, ⟨some a, 0, 0, cap, rfl, by simp, hm, .inl rfl, fun j p hj => by simp at hj⟩, .inr hyy⟩
    · obtain ⟨b, off, spot⟩ := a
      obtain ⟨p0, _, hsp⟩ := each 0 (by omega)
      have hspot : spot = none := by simpa [Addr.add] using World.cell?_spot (hsp 0 _ rfl)
      subst hspot
      have hch : ∃ f : Nat → Bnd, ∀ i, i < len → bBn (f i) ∧ ∀ (j : Nat) u, (cvBn (f i))[j]? = some u → W.cell? ((⟨b, off, none⟩ : Addr).add (i * 4 + j)) = some u := by
        classical
        refine ⟨fun i => if hi : i < len then Classical.choose (each i hi) else p0, fun i hi => ?_⟩
        simp only [hi, dif_pos]
        exact Classical.choose_spec (each i hi)
      obtain ⟨f, hfx⟩ := hch
      refine ⟨(List.range len).map f, ?_, ⟨some ⟨b, off, none⟩, b, off, cap, by simp, by simpa using hl, hm, .inr rfl, fun j p hj i u hu => ?_⟩, .inr (by simpa using hyy)⟩
      · intro p hp
        obtain ⟨i, hi, rfl⟩ := List.mem_map.1 hp
        exact (hfx i (List.mem_range.1 hi)).1
      · have hjl : j < len := by
          have := (List.getElem?_eq_some_iff.1 hj).1
          simpa using this
        simp [hjl] at hj
        subst hj
        have c0 := (hfx j hjl).2 i u hu
        rw [add_plain] at c0
        rw [Nat.add_assoc]
        exact c0
set_option maxRecDepth 100000 in
theorem open_mss {H : Type} {enc : TypeId × Value → H} {W : World} {b1 : Nat} {sp : Nat → Bool} {held : Bool} {k : Nat} {v : Value} {y : DataW H × List MemPlace}
    (hf : DataW.trod enc Tryz.prog W b1 sp held k 59 [v] = some y) :
    ∃ l : List Ms, (∀ x ∈ l, bMs x) ∧ SlV cvMs 5 W v l ∧ ((y.1 = .nil ∧ l.length = 0) ∨ ∃ es rs, y.1 = .slice es rs ∧ es.length = l.length) := by
  rcases open_slice Tryz.underlying59 hf with hcs | ⟨a, len, cap, m, n, D, Pl, hcs, _, hl, hm, hz, hy, hcell⟩
  · have hv := hcs.1
    simp at hv
    subst hv
    exact ⟨[], fun p hp => by simp at hp, SlV.nil _, .inl ⟨by rw [hcs.2], rfl⟩⟩
  · simp at hcs
    subst hcs
    have hlen : len ≤ m := by rw [hz]; split <;> omega
    have each : ∀ i, i < len → ∃ x : Ms, bMs x ∧ ∀ (j : Nat) u, (cvMs x)[j]? = some u → W.cell? (a.add (i * 5 + j)) = some u := by
      intro i hi
      obtain ⟨cs', h1, h2⟩ := hcell i (by omega)
      rw [rco_m] at h1
      obtain ⟨_, hlen', hcc⟩ := World.cells?_some h1
      obtain ⟨w0, w1, w2, w3, w4, rfl⟩ := rlst5 cs' hlen'
      obtain ⟨x, hx, hxe⟩ := open_ms h2
      refine ⟨x, hx, fun j u hu => ?_⟩
      have hj := (List.getElem?_eq_some_iff.1 hu).1
      have c0 := hcc j (by rw [← hxe] at hj; simpa using hj)
      rw [add_add] at c0
      rw [c0, hxe]
      exact hu
    have hyy : ∃ es rs, y.1 = .slice es rs ∧ es.length = len := ⟨_, _, by rw [hy], by simp⟩
    by_cases h0 : len = 0
    · subst h0
      exact ⟨[], fun p hp => by simp at hp, ⟨some a, 0, 0, cap, rfl, by simp, hm, .inl rfl, fun j p hj => by simp at hj⟩, .inr hyy⟩
    · obtain ⟨b, off, spot⟩ := a
      obtain ⟨p0, _, hsp⟩ := each 0 (by omega)
      have hspot : spot = none := by simpa [Addr.add] using World.cell?_spot (hsp 0 _ rfl)
      subst hspot
      have hch : ∃ f : Nat → Ms, ∀ i, i < len → bMs (f i) ∧ ∀ (j : Nat) u, (cvMs (f i))[j]? = some u → W.cell? ((⟨b, off, none⟩ : Addr).add (i * 5 + j)) = some u := by
        classical
        refine ⟨fun i => if hi : i < len then Classical.choose (each i hi) else p0, fun i hi => ?_⟩
        simp only [hi, dif_pos]
        exact Classical.choose_spec (each i hi)
      obtain ⟨f, hfx⟩ := hch
      refine ⟨(List.range len).map f, ?_, ⟨some ⟨b, off, none⟩, b, off, cap, by simp, by simpa using hl, hm, .inr rfl, fun j p hj i u hu => ?_⟩, .inr (by simpa using hyy)⟩
      · intro p hp
        obtain ⟨i, hi, rfl⟩ := List.mem_map.1 hp
        exact (hfx i (List.mem_range.1 hi)).1
      · have hjl : j < len := by
          have := (List.getElem?_eq_some_iff.1 hj).1
          simpa using this
        simp [hjl] at hj
        subst hj
        have c0 := (hfx j hjl).2 i u hu
        rw [add_plain] at c0
        rw [Nat.add_assoc]
        exact c0
theorem open_n64 {H : Type} {enc : TypeId × Value → H} {W : World} {b1 : Nat} {sp : Nat → Bool} {held : Bool} {k : Nat} {v : Value} {y : DataW H × List MemPlace}
    (hf : DataW.trod enc Tryz.prog W b1 sp held k 99 [v] = some y) : ∃ l : List Nat, (∀ x ∈ l, x < 18446744073709551616) ∧ SlP (fun n : Nat => .int .u64 n) W v l := by
  rcases open_slice Tryz.underlying99 hf with hcs | ⟨a, len, cap, m, n, D, Pl, hcs, _, hl, hm, hz, hy, hcell⟩
  · have hv := hcs.1
    simp at hv
    subst hv
    exact ⟨[], fun p hp => by simp at hp, none, 0, 0, 0, rfl, .inl rfl, fun j x hj => by simp at hj⟩
  · simp at hcs
    subst hcs
    have hlen : len ≤ m := by rw [hz]; split <;> omega
    have each : ∀ i, i < len → ∃ x : Nat, x < 18446744073709551616 ∧ W.cell? (a.add i) = some (.int .u64 x) := by
      intro i hi
      obtain ⟨cs', h1, h2⟩ := hcell i (by omega)
      rw [rco_u64] at h1
      obtain ⟨_, hlen', hcc⟩ := World.cells?_some h1
      obtain ⟨w0, rfl⟩ := List.length_eq_one_iff.1 hlen'
      obtain ⟨q, e, hq⟩ := rone_u64 (v := w0) h2
      have c0 := hcc 0 (by simp)
      rw [add_add] at c0
      simp only [Nat.mul_one, Nat.add_zero] at c0
      exact ⟨q, hq, by rw [c0]; simp [e]⟩
    by_cases h0 : len = 0
    · subst h0
      exact ⟨[], fun p hp => by simp at hp, some a, 0, 0, cap, rfl, .inl rfl, fun j p hj => by simp at hj⟩
    · obtain ⟨b, off, spot⟩ := a
      obtain ⟨p0, _, hsp⟩ := each 0 (by omega)
      have hspot : spot = none := by simpa [Addr.add] using World.cell?_spot hsp
      subst hspot
      have hch : ∃ f : Nat → Nat, ∀ i, i < len → f i < 18446744073709551616 ∧ W.cell? ((⟨b, off, none⟩ : Addr).add i) = some (.int .u64 (f i : Nat)) := by
        classical
        refine ⟨fun i => if hi : i < len then Classical.choose (each i hi) else p0, fun i hi => ?_⟩
        simp only [hi, dif_pos]
        exact Classical.choose_spec (each i hi)
      obtain ⟨f, hfx⟩ := hch
      refine ⟨(List.range len).map f, ?_, some ⟨b, off, none⟩, b, off, cap, by simp, .inr rfl, fun j p hj => ?_⟩
      · intro p hp
        obtain ⟨i, hi, rfl⟩ := List.mem_map.1 hp
        exact (hfx i (List.mem_range.1 hi)).1
      · have hjl : j < len := by
          have := (List.getElem?_eq_some_iff.1 hj).1
          simpa using this
        simp [hjl] at hj
        subst hj
        have c0 := (hfx j hjl).2
        rw [add_plain] at c0
        exact c0
theorem open_n32 {H : Type} {enc : TypeId × Value → H} {W : World} {b1 : Nat} {sp : Nat → Bool} {held : Bool} {k : Nat} {v : Value} {y : DataW H × List MemPlace}
    (hf : DataW.trod enc Tryz.prog W b1 sp held k 104 [v] = some y) : ∃ l : List Nat, (∀ x ∈ l, x < 4294967296) ∧ SlP (fun n : Nat => .int .u32 n) W v l := by
  rcases open_slice Tryz.underlying104 hf with hcs | ⟨a, len, cap, m, n, D, Pl, hcs, _, hl, hm, hz, hy, hcell⟩
  · have hv := hcs.1
    simp at hv
    subst hv
    exact ⟨[], fun p hp => by simp at hp, none, 0, 0, 0, rfl, .inl rfl, fun j x hj => by simp at hj⟩
  · simp at hcs
    subst hcs
    have hlen : len ≤ m := by rw [hz]; split <;> omega
    have each : ∀ i, i < len → ∃ x : Nat, x < 4294967296 ∧ W.cell? (a.add i) = some (.int .u32 x) := by
      intro i hi
      obtain ⟨cs', h1, h2⟩ := hcell i (by omega)
      rw [rco_u32] at h1
      obtain ⟨_, hlen', hcc⟩ := World.cells?_some h1
      obtain ⟨w0, rfl⟩ := List.length_eq_one_iff.1 hlen'
      obtain ⟨q, e, hq⟩ := rone_u32 (v := w0) h2
      have c0 := hcc 0 (by simp)
      rw [add_add] at c0
      simp only [Nat.mul_one, Nat.add_zero] at c0
      exact ⟨q, hq, by rw [c0]; simp [e]⟩
    by_cases h0 : len = 0
    · subst h0
      exact ⟨[], fun p hp => by simp at hp, some a, 0, 0, cap, rfl, .inl rfl, fun j p hj => by simp at hj⟩
    · obtain ⟨b, off, spot⟩ := a
      obtain ⟨p0, _, hsp⟩ := each 0 (by omega)
      have hspot : spot = none := by simpa [Addr.add] using World.cell?_spot hsp
      subst hspot
      have hch : ∃ f : Nat → Nat, ∀ i, i < len → f i < 4294967296 ∧ W.cell? ((⟨b, off, none⟩ : Addr).add i) = some (.int .u32 (f i : Nat)) := by
        classical
        refine ⟨fun i => if hi : i < len then Classical.choose (each i hi) else p0, fun i hi => ?_⟩
        simp only [hi, dif_pos]
        exact Classical.choose_spec (each i hi)
      obtain ⟨f, hfx⟩ := hch
      refine ⟨(List.range len).map f, ?_, some ⟨b, off, none⟩, b, off, cap, by simp, .inr rfl, fun j p hj => ?_⟩
      · intro p hp
        obtain ⟨i, hi, rfl⟩ := List.mem_map.1 hp
        exact (hfx i (List.mem_range.1 hi)).1
      · have hjl : j < len := by
          have := (List.getElem?_eq_some_iff.1 hj).1
          simpa using this
        simp [hjl] at hj
        subst hj
        have c0 := (hfx j hjl).2
        rw [add_plain] at c0
        exact c0
end Go.Proofs.YtgmneapgihakgaaGreatDoor
