/- Texts of one seat, merged. -/
import Derived.Test.YtoekggbbkcmknaaGreatDoorP07
import Derived.Lib.AppendZeros
import Derived.Test.YtoekggbbkcmknaaGreatDoorP06
import Derived.Test.YtoekggbbkcmknaaGreatDoorP04
import Derived.Test.YtoekggbbkcmknaaGreatDoorRows
import Derived.ChangeArms
import Derived.LaidOnce
import Derived.MakeChecks
set_option maxRecDepth 100000
set_option maxHeartbeats 4000000
set_option linter.unusedVariables false
/- The document's ParseBatch. -/
namespace Go.Proofs.YtoekggbbkcmknaaGreatDoor
open Go.RowKit
attribute [local go_sem ↓] zeroC_eq newC_eq loadC_eq storeC_eq buildC_eq zeroR_eq newR_eq loadR_eq storeR_eq buildR_eq
attribute [local go_sem] run_zeroC run_newC run_buildC0 run_buildC1 run_neqC run_eqlC run_guardC run_zeroR run_newR run_buildR0 run_buildR1 run_neqR run_eqlR run_guardR
attribute [local go_sem ↓] bslC_eq bslR_eq
attribute [local go_sem] run_bslC run_bslR
inductive ListOutD (s : ByteArray) (w : World) (e : Ending) (w' : World) : Prop
  | ok (h0 : (listD s).2 = 0) (v : Value) (he : e = .returned (.tuple #[v, .int .i64 0])) (hs : SlG Cm.vals 18 w' v (listD s).1) (hb : Below w.heap.size w w')
  | bad (h0 : (listD s).2 ≠ 0) (he : e = .returned (.tuple #[.slice none 0 0, .int .i64 (listD s).2])) (hb : Below w.heap.size w w')
set_option maxRecDepth 1000000
set_option maxHeartbeats 1000000 in
theorem refParseBatch_any (s : ByteArray) (w : World) :
    Calls Tryz.prog 16 #[.string s] w fun e w' => ListOutD s w e w' := by
  have HRD := Lib.hid (rdNew w s)
  have HC := Lib.hid (num4 _ s 0 _ HRD.out)
  have hvn := vlt32 s 0
  have HB0 := Lib.hid ((Below.refl w.heap.size w).alloc (Nat.le_refl _) (.cells #[.string s, .int .i64 0] 56))
  have HX : Hid (listD s = ((getsD (cntD s).1 (cntD s).2.1 (cntD s).2.2).1, fin (getsD (cntD s).1 (cntD s).2.1 (cntD s).2.2).2.1 (getsD (cntD s).1 (cntD s).2.1 (cntD s).2.2).2.2)) := rfl
  unfold cntD at HX
  simp only at HX
  revert HC HX hvn
  generalize tk s 0 4 = T
  obtain ⟨tb, s1, e0⟩ := T
  simp only
  generalize Oc.val tb.data.toList = N
  intro HC hvn HX
  by_cases h64 : 64 < N
  · have hg : (64 : Int) < (N : Int) := by omega
    have HFL := Lib.hid (fun W (hW : Rd W w.heap.size s1 e0) => refFail_any w.heap.size s1 e0 6 W hW)
    rw [if_pos h64] at HX
    generalize hx : (if e0 = 0 then (6 : Int) else e0) = e1 at HX HFL
    have he1 : e1 ≠ 0 := by rw [← hx]; split <;> omega
    clear hx h64
    rw [getsD_bad _ _ _ he1] at HX
    have hbad : (e1 == 0) = false := by rw [beq_eq_false_iff_ne]; exact he1
    have hfin : fin s1 e1 = e1 := by unfold fin; rw [if_neg (fun h => he1 h.1)]
    have HXE : Hid ((listD s).2 = e1) := by show _ = _; rw [HX.out]; exact hfin
    have hnz : (e1 != 0) = true := by rw [bne_iff_ne]; exact he1
    go_enter Tryz.func16, Tryz.ntmps16
    go_wp2_with (first
      | (go_at_call 42; refine (HFL.out _ hr1).mono ?_; rintro x w2 ⟨rfl, hr2, hu2⟩)
      | (go_at_call 41; refine (HC.out).mono ?_; rintro x w1 ⟨rfl, hr1, hu1⟩))
    have hb2 := hr2.c1
    have HR2 := Lib.hid hr2
    have HE := Lib.hid (refEnd_rd w.heap.size s1 e1 w2 hr2)
    rw [hfin] at HE
    have HBB := Lib.hid ((HB0.out.trans (hu1.below (Nat.le_refl _))).trans (hu2.below (Nat.le_refl _)))
    have HNE := Lib.hid he1
    clear hr1 hr2 hu1 hu2 he1 hfin
    go_loopg [6, 7] 0 (fun g v i wr => v = .slice none 0 0 ∧ i = .int .u64 0 ∧ wr = w2)
    case atStart => exact ⟨rfl, rfl, rfl⟩
    case round =>
      obtain ⟨rfl, rfl, rfl⟩ := hrel
      have hp : (0 : Int) < (N : Int) := by omega
      clear hg hvn
      go_wp2_with (go_at_call 39; refine HE.out.mono ?_; rintro x w4 ⟨rfl, rfl⟩)
      all_goals first
        | (go_ret2; exact .bad (by rw [HXE.out]; exact HNE.out) (by rw [HXE.out]; rfl) HBB.out)
        | trace_state
  · rw [if_neg h64] at HX
    have hg : decide ((64 : Int) < (N : Int)) = false := decide_eq_false (by omega)
    have HN64 := Lib.hid (show N ≤ 64 by omega)
    clear h64
    go_enter Tryz.func16, Tryz.ntmps16
    go_wp2_with (go_at_call 41; refine (HC.out).mono ?_; rintro x w1 ⟨rfl, hr1, hu1⟩)
    have HD2 := Lib.hid hr1
    have HB2 := Lib.hid (HB0.out.trans (hu1.below (Nat.le_refl _)))
    have HLT := Lib.hid hr1.lt
    clear hr1 hu1
    go_loopg [6, 7] N (fun g v i wr => ∃ (k : Nat) (l : List Cm) (t : ByteArray) (f : Int), k ≤ N ∧ g = N - k ∧ i = .int .u64 k ∧ l.length = k ∧
      Hid (getsD N s1 e0 = (l ++ (getsD (N - k) t f).1, (getsD (N - k) t f).2)) ∧ Hid (Rd wr w.heap.size t f) ∧
      Hid (RowG Cm.vals 18 40 wr w1.heap.size v l) ∧ Hid (Below w.heap.size w wr) ∧ Hid (w1.heap.size ≤ wr.heap.size))
    case atStart => exact ⟨0, [], s1, e0, Nat.zero_le _, rfl, rfl, rfl, rfl, HD2.out, RowG.nil _ _ _ _ _, HB2.out, Nat.le_refl _⟩
    case round =>
      obtain ⟨k, l, t, f, hk, rfl, rfl, rfl, HGE, HRd, HO, HB, HS⟩ := hrel
      have hb := HRd.out.c1
      by_cases hgo : l.length < N ∧ f = 0
      · obtain ⟨hlt, rfl⟩ := hgo
        rw [show N - l.length = N - (l.length + 1) + 1 by omega, getsD_succ] at HGE
        have HGT := Lib.hid (fun W (hW : Rd W w.heap.size t 0) => refRead_any w.heap.size t 0 W hW)
        revert HGT HGE
        generalize readR t 0 = X
        obtain ⟨xc, t', f'⟩ := X
        intro HGE HGT
        simp only at HGT HGE
        go_wp2_with (first
          | (go_at_call 19; refine (HGT.out _ HRd.out).mono ?_; rintro e w3 ⟨rfl, hr3, hm3⟩)
          | (at_builtin; obtain ⟨v', w4, hrun, hO4, hgrow, hB34, _⟩ := app1 (W := w3) encV appR (by decide) _ xc 0 (Nat.le_trans HS.out hm3.size) (RowG.mod HO.out hm3 HLT.out) (by have := HN64.out; omega) (Cm.vals xc).toArray rfl _ rfl; refine Lib.wpList_append_run _ rfl _ _ _ _ rfl _ _ rfl rfl _ _ hrun ?_; have HK := Lib.hid (And.intro hO4 hB34)))
        have hB4 : Below w1.heap.size w3 w4 := HK.out.2
        have hs3 : w1.heap.size ≤ w3.heap.size := Nat.le_trans HS.out hm3.size
        have HO4 := Lib.hid HK.out.1
        have HB34 := Lib.hid hB4
        have HB3 : Hid (Below w.heap.size w w3) := HB.out.trans (hm3.below (Nat.le_refl _) HB.out.size)
        have HD4 : Hid (Rd w4 w.heap.size t' f') := hr3.below' HB34.out HLT.out
        clear hB4 hgrow hm3 hr3 hrun hO4 hB34
        go_wp2
        go_roundg (N - (l.length + 1))
        case measure => omega
        case rel =>
          have hN := HN64.out
          refine ⟨l.length + 1, l ++ [xc], t', f', by omega, rfl, by go_num, by simp, ?_, HD4, HO4, HB3.out.trans (HB34.out.mono HB2.out.size), Nat.le_trans hs3 HB34.out.size⟩
          show _ = _
          rw [HGE.out]
          simp
      · have HEQ : Hid (getsD N s1 e0 = (l, t, f)) := by
          show _ = _
          rw [HGE.out]
          by_cases hf : f = 0
          · obtain hk0 : N - l.length = 0 := by have := fun h => hgo ⟨h, hf⟩; omega
            rw [hk0]; simp [getsD]
          · rw [getsD_bad _ _ _ hf]; simp
        have HXE : Hid (listD s = (l, fin t f)) := by
          show _ = _
          rw [HX.out, HEQ.out]
        have HFT := Lib.hid (fun W (hW : Rd W w.heap.size t f) => refEnd_rd w.heap.size t f W hW)
        clear HGE
        obtain ⟨a1, c1, rfl⟩ := RowG.slice HO.out
        by_cases hlt : l.length < N
        · have hf : f ≠ 0 := fun h => hgo ⟨hlt, h⟩
          have hf' : (f == 0) = false := by rw [beq_eq_false_iff_ne]; exact hf
          by_cases hz : fin t f = 0
          · exact absurd (fin_zero hz) hf
          · have hz' : (fin t f != 0) = true := by rw [bne_iff_ne]; exact hz
            revert HFT HXE hz hz'
            generalize fin t f = z
            intro HXE HFT hz hz'
            go_wp2_with (go_at_call 39; refine (HFT.out _ HRd.out).mono ?_; rintro e w4 ⟨rfl, rfl⟩)
            go_ret2
            exact .bad (by rw [HXE.out]; exact hz) (by rw [HXE.out]; rfl) HB.out
        · by_cases hz : fin t f = 0
          · rw [hz] at HXE HFT
            go_wp2_with (go_at_call 39; refine (HFT.out _ HRd.out).mono ?_; rintro e w4 ⟨rfl, rfl⟩)
            go_ret2
            exact .ok (by rw [HXE.out]) _ rfl (by rw [HXE.out]; exact RowG.sl encV HO.out) HB.out
          · have hz' : (fin t f != 0) = true := by rw [bne_iff_ne]; exact hz
            revert HFT HXE hz hz'
            generalize fin t f = z
            intro HXE HFT hz hz'
            go_wp2_with (go_at_call 39; refine (HFT.out _ HRd.out).mono ?_; rintro e w4 ⟨rfl, rfl⟩)
            go_ret2
            exact .bad (by rw [HXE.out]; exact hz) (by rw [HXE.out]; rfl) HB.out
end Go.Proofs.YtoekggbbkcmknaaGreatDoor
/- Any bytes: the law of reading. -/
namespace Go.Proofs.YtoekggbbkcmknaaGreatDoor
open Go.RowKit
attribute [local go_sem ↓] zeroC_eq newC_eq loadC_eq storeC_eq buildC_eq zeroR_eq newR_eq loadR_eq storeR_eq buildR_eq
attribute [local go_sem] run_zeroC run_newC run_buildC0 run_buildC1 run_neqC run_eqlC run_guardC run_zeroR run_newR run_buildR0 run_buildR1 run_neqR run_eqlR run_guardR
attribute [local go_sem ↓] bslC_eq bslR_eq
attribute [local go_sem] run_bslC run_bslR
theorem BxC.belowB {w w' : World} {g B : Nat} {c : Cm} (h : BxC w g c) (hb : Below B w w') (hlt : g < B) : BxC w' g c := by
  have hc : ∀ (j : Nat) v, c.vals[j]? = some v → w'.cell? ⟨g, j, none⟩ = some v := fun j v hv => (hb.cell (p := ⟨g, j, none⟩) hlt).trans (h.cell j v hv)
  exact ⟨World.block_lt_of_cell? _ _ (hc 0 _ rfl), hc, fun j hj => (hb.frozen (p := ⟨g, j, none⟩) hlt).trans (h.free j hj)⟩
theorem BxC.modN {w w' : World} {g b : Nat} {c : Cm} (h : BxC w g c) (m : Mod b w w') (hne : g ≠ b) : BxC w' g c := by
  have hc : ∀ (j : Nat) v, c.vals[j]? = some v → w'.cell? ⟨g, j, none⟩ = some v := fun j v hv => (m.cell (p := ⟨g, j, none⟩) h.lt hne).trans (h.cell j v hv)
  exact ⟨World.block_lt_of_cell? _ _ (hc 0 _ rfl), hc, fun j hj => (m.frozen (p := ⟨g, j, none⟩) h.lt hne).trans (h.free j hj)⟩
theorem stashC (w : World) (c : Cm) : (storeC ⟨w.heap.size, 0, none⟩ c.agg).run Tryz.prog (w.alloc (objC (Cm.zero 0))) = .ok () (setFrom (w.alloc (objC (Cm.zero 0))) w.heap.size 0 c.vals) ∧
    BxC (setFrom (w.alloc (objC (Cm.zero 0))) w.heap.size 0 c.vals) w.heap.size c ∧ Below w.heap.size w (setFrom (w.alloc (objC (Cm.zero 0))) w.heap.size 0 c.vals) := by
  have hn := BxC.newC w (Cm.zero 0)
  obtain ⟨h1, h2⟩ := hn.stored c
  exact ⟨run_storeC hn c, h1, ((Below.refl _ _).alloc (Nat.le_refl _) _).trans (h2.below (Nat.le_refl _))⟩
theorem stashR (w : World) (c : Cm) : (storeR ⟨w.heap.size, 0, none⟩ c.agg).run Tryz.prog (w.alloc (objR (Cm.zero 0))) = .ok () (setFrom (w.alloc (objR (Cm.zero 0))) w.heap.size 0 c.vals) ∧
    BxC (setFrom (w.alloc (objR (Cm.zero 0))) w.heap.size 0 c.vals) w.heap.size c ∧ Below w.heap.size w (setFrom (w.alloc (objR (Cm.zero 0))) w.heap.size 0 c.vals) := by
  have hn := BxC.newR w (Cm.zero 0)
  obtain ⟨h1, h2⟩ := hn.stored c
  exact ⟨run_storeR hn c, h1, ((Below.refl _ _).alloc (Nat.le_refl _) _).trans (h2.below (Nat.le_refl _))⟩
theorem stash2 (w : World) (c d : Cm) : (storeC ⟨w.heap.size, 0, none⟩ c.agg).run Tryz.prog ((w.alloc (objC (Cm.zero 0))).alloc (objR (Cm.zero 0))) = .ok () (setFrom ((w.alloc (objC (Cm.zero 0))).alloc (objR (Cm.zero 0))) w.heap.size 0 c.vals) ∧
    (storeR ⟨w.heap.size + 1, 0, none⟩ d.agg).run Tryz.prog (setFrom ((w.alloc (objC (Cm.zero 0))).alloc (objR (Cm.zero 0))) w.heap.size 0 c.vals) = .ok () (setFrom (setFrom ((w.alloc (objC (Cm.zero 0))).alloc (objR (Cm.zero 0))) w.heap.size 0 c.vals) (w.heap.size + 1) 0 d.vals) ∧
    BxC (setFrom (setFrom ((w.alloc (objC (Cm.zero 0))).alloc (objR (Cm.zero 0))) w.heap.size 0 c.vals) (w.heap.size + 1) 0 d.vals) w.heap.size c ∧
    BxC (setFrom (setFrom ((w.alloc (objC (Cm.zero 0))).alloc (objR (Cm.zero 0))) w.heap.size 0 c.vals) (w.heap.size + 1) 0 d.vals) (w.heap.size + 1) d ∧
    Below w.heap.size w (setFrom (setFrom ((w.alloc (objC (Cm.zero 0))).alloc (objR (Cm.zero 0))) w.heap.size 0 c.vals) (w.heap.size + 1) 0 d.vals) := by
  have hn := (BxC.newC w (Cm.zero 0)).alloc (objR (Cm.zero 0))
  have hm := BxC.newR (w.alloc (objC (Cm.zero 0))) (Cm.zero 0)
  rw [World.size_alloc] at hm
  obtain ⟨h1, h2⟩ := hn.stored c
  have hm := hm.upd h2 (by omega)
  obtain ⟨h3, h4⟩ := hm.stored d
  exact ⟨run_storeC hn c, run_storeR hm d, h1.upd h4 (by omega), h3, ((((Below.refl _ _).alloc (Nat.le_refl _) _).alloc (by simp) _).trans (h2.below (Nat.le_refl _))).trans (h4.below (by omega))⟩
def Hd (ga gb gx gy rb qb : Nat) (pc xc yc : Cm) (s2 : ByteArray) (e2 : Int) (u w : World) : Prop :=
  BxC w ga pc ∧ BxC w gb pc ∧ BxC w gx xc ∧ BxC w gy yc ∧ Rd w rb s2 e2 ∧ Rd w qb s2 e2 ∧ Below u.heap.size u w
section
variable {ga gb gx gy rb qb : Nat} {pc xc yc : Cm} {s2 : ByteArray} {e2 : Int} {u w w' : World}
theorem hdS (h : Hd ga gb gx gy rb qb pc xc yc s2 e2 u w) :
    (loadC ⟨ga, 0, none⟩).run Tryz.prog w = .ok pc.agg w ∧ (loadR ⟨gb, 0, none⟩).run Tryz.prog w = .ok pc.agg w ∧ (loadC ⟨gx, 0, none⟩).run Tryz.prog w = .ok xc.agg w ∧ (loadR ⟨gy, 0, none⟩).run Tryz.prog w = .ok yc.agg w ∧
    w.cell? ⟨qb, 0, none⟩ = some (.string s2) ∧ w.cell? ⟨qb, 1, none⟩ = some (.int .i64 e2) ∧ Hid (Hd ga gb gx gy rb qb pc xc yc s2 e2 u w) :=
  ⟨run_loadC h.1, run_loadR h.2.1, run_loadC h.2.2.1, run_loadR h.2.2.2.1, h.2.2.2.2.2.1.c0, h.2.2.2.2.2.1.c1, Lib.hid h⟩
theorem hdStep (h : Hd ga gb gx gy rb qb pc xc yc s2 e2 u w) (hb : Below w.heap.size w w') : Hd ga gb gx gy rb qb pc xc yc s2 e2 u w' := by
  obtain ⟨h1, h2, h3, h4, h5, h6, h7⟩ := h
  exact ⟨h1.belowB hb h1.lt, h2.belowB hb h2.lt, h3.belowB hb h3.lt, h4.belowB hb h4.lt, h5.below hb, h6.below hb, below_step h7 hb⟩
theorem sStep (h : (loadC ⟨ga, 0, none⟩).run Tryz.prog w = .ok pc.agg w ∧ (loadR ⟨gb, 0, none⟩).run Tryz.prog w = .ok pc.agg w ∧ (loadC ⟨gx, 0, none⟩).run Tryz.prog w = .ok xc.agg w ∧ (loadR ⟨gy, 0, none⟩).run Tryz.prog w = .ok yc.agg w ∧
    w.cell? ⟨qb, 0, none⟩ = some (.string s2) ∧ w.cell? ⟨qb, 1, none⟩ = some (.int .i64 e2) ∧ Hid (Hd ga gb gx gy rb qb pc xc yc s2 e2 u w)) (hb : Below w.heap.size w w') :
    (loadC ⟨ga, 0, none⟩).run Tryz.prog w' = .ok pc.agg w' ∧ (loadR ⟨gb, 0, none⟩).run Tryz.prog w' = .ok pc.agg w' ∧ (loadC ⟨gx, 0, none⟩).run Tryz.prog w' = .ok xc.agg w' ∧ (loadR ⟨gy, 0, none⟩).run Tryz.prog w' = .ok yc.agg w' ∧
    w'.cell? ⟨qb, 0, none⟩ = some (.string s2) ∧ w'.cell? ⟨qb, 1, none⟩ = some (.int .i64 e2) ∧ Hid (Hd ga gb gx gy rb qb pc xc yc s2 e2 u w') := hdS (hdStep h.2.2.2.2.2.2.out hb)
theorem errS (h : Hid (Hd ga gb gx gy rb qb pc xc yc s2 e2 u w)) :
    Calls Tryz.prog 22 #[.pointer (some ⟨rb, 0, none⟩)] w fun x w' => x = .returned (.int .i64 e2) ∧ w = w' := err_any rb s2 e2 w h.out.2.2.2.2.1
theorem leftS (h : Hid (Hd ga gb gx gy rb qb pc xc yc s2 e2 u w)) :
    Calls Tryz.prog 23 #[.pointer (some ⟨rb, 0, none⟩)] w fun x w' => x = .returned (.int .i64 s2.size) ∧ w = w' := left_any rb s2 e2 w h.out.2.2.2.2.1
theorem errT (h : (loadC ⟨ga, 0, none⟩).run Tryz.prog w = .ok pc.agg w ∧ (loadR ⟨gb, 0, none⟩).run Tryz.prog w = .ok pc.agg w ∧ (loadC ⟨gx, 0, none⟩).run Tryz.prog w = .ok xc.agg w ∧ (loadR ⟨gy, 0, none⟩).run Tryz.prog w = .ok yc.agg w ∧
    w.cell? ⟨qb, 0, none⟩ = some (.string s2) ∧ w.cell? ⟨qb, 1, none⟩ = some (.int .i64 e2) ∧ Hid (Hd ga gb gx gy rb qb pc xc yc s2 e2 u w)) :
    Calls Tryz.prog 22 #[.pointer (some ⟨rb, 0, none⟩)] w fun x w' => x = .returned (.int .i64 e2) ∧ w = w' := errS h.2.2.2.2.2.2
theorem leftT (h : (loadC ⟨ga, 0, none⟩).run Tryz.prog w = .ok pc.agg w ∧ (loadR ⟨gb, 0, none⟩).run Tryz.prog w = .ok pc.agg w ∧ (loadC ⟨gx, 0, none⟩).run Tryz.prog w = .ok xc.agg w ∧ (loadR ⟨gy, 0, none⟩).run Tryz.prog w = .ok yc.agg w ∧
    w.cell? ⟨qb, 0, none⟩ = some (.string s2) ∧ w.cell? ⟨qb, 1, none⟩ = some (.int .i64 e2) ∧ Hid (Hd ga gb gx gy rb qb pc xc yc s2 e2 u w)) :
    Calls Tryz.prog 23 #[.pointer (some ⟨rb, 0, none⟩)] w fun x w' => x = .returned (.int .i64 s2.size) ∧ w = w' := leftS h.2.2.2.2.2.2
end
theorem same2 (u v : Value) (l : List Cm) (hl : l.length ≤ 64) (w : World) (hu : SlG Cm.vals 18 w u l) (hv : SlG Cm.vals 18 w v l) :
    Calls Tryz.prog 20 #[u, v] w fun e w' => e = .returned (.bool true) ∧ Below w.heap.size w w' := by
  have h := same_any u v l l (by omega) w hu hv
  rwa [decide_eq_true rfl] at h
theorem rdMod {w w' : World} {b c : Nat} {s : ByteArray} {e : Int} (h : Rd w b s e) (m : Mod c w w') (hlt : b < w.heap.size) (hne : b ≠ c) : Rd w' b s e := by
  obtain ⟨c0, c1, f0, f1⟩ := h
  constructor
  · rw [m.cell hlt hne]; exact c0
  · rw [m.cell hlt hne]; exact c1
  · rw [m.frozen hlt hne]; exact f0
  · rw [m.frozen hlt hne]; exact f1
theorem getsD_len : ∀ (n : Nat) (s : ByteArray) (e : Int), (getsD n s e).1.length ≤ n
  | 0, _, _ => by simp [getsD]
  | n + 1, s, e => by
    by_cases h : e = 0
    · subst h
      rw [getsD_succ]
      have := getsD_len n (readR s 0).2.1 (readR s 0).2.2
      simp only [List.length_cons]
      omega
    · rw [getsD_bad _ _ _ h]; simp
theorem listD_len (s : ByteArray) : (listD s).1.length ≤ 64 := by
  unfold listD cntD
  simp only
  generalize tk s 0 4 = T
  by_cases h : 64 < Oc.val T.1.data.toList
  · rw [if_pos h, getsD_bad _ _ _ (by split <;> omega)]; simp
  · exact Nat.le_trans (getsD_len _ _ _) (by omega)
theorem lists (s : ByteArray) : ∃ (L : List Cm) (E : Int), L.length ≤ 64 ∧
    (∀ W, Forms W → Calls Tryz.prog 15 #[.string s] W fun e w' => ∃ v, e = .returned (.tuple #[v, .int .i64 E]) ∧ SlG Cm.vals 18 w' v L ∧ Below W.heap.size W w') ∧
    (∀ W, Calls Tryz.prog 16 #[.string s] W fun e w' => ∃ v, e = .returned (.tuple #[v, .int .i64 E]) ∧ SlG Cm.vals 18 w' v L ∧ Below W.heap.size W w') := by
  by_cases h0 : (listD s).2 = 0
  · have hlen : (listC s 64).1.length ≤ 64 ∨ 64 < (listC s 64).1.length := by omega
    rcases hlen with hlen | hlen
    · refine ⟨(listC s 64).1, 0, hlen, fun W hW => (parseBatch_any s W hW).mono ?_, fun W => (refParseBatch_any s W).mono ?_⟩
      · rintro e w' h
        cases h with
        | ok _ v he hs _ hb => exact ⟨v, he, hs, hb⟩
        | bad hz _ _ => exact absurd (by rw [list_err]; exact h0) hz
      · rintro e w' h
        cases h with
        | ok _ v he hs hb => exact ⟨v, he, by rw [list_ok s h0]; exact hs, hb⟩
        | bad hz _ _ => exact absurd h0 hz
    · exact absurd hlen (by rw [list_ok s h0]; have := listD_len s; omega)
  · refine ⟨[], (listD s).2, Nat.zero_le _, fun W hW => (parseBatch_any s W hW).mono ?_, fun W => (refParseBatch_any s W).mono ?_⟩
    · rintro e w' h
      cases h with
      | ok hz _ _ _ _ _ => exact absurd (by rw [← list_err]; exact hz) h0
      | bad _ he hb => exact ⟨_, by rw [he, list_err], SlG.nil _, hb⟩
    · rintro e w' h
      cases h with
      | ok hz _ _ _ _ => exact absurd hz h0
      | bad _ he hb => exact ⟨_, he, SlG.nil _, hb⟩
end Go.Proofs.YtoekggbbkcmknaaGreatDoor
/- Any bytes: the law of reading. -/
namespace Go.Proofs.YtoekggbbkcmknaaGreatDoor
open Go.RowKit
attribute [local go_sem ↓] zeroC_eq newC_eq loadC_eq storeC_eq buildC_eq zeroR_eq newR_eq loadR_eq storeR_eq buildR_eq
attribute [local go_sem] run_zeroC run_newC run_buildC0 run_buildC1 run_neqC run_eqlC run_guardC run_zeroR run_newR run_buildR0 run_buildR1 run_neqR run_eqlR run_guardR
attribute [local go_sem ↓] bslC_eq bslR_eq
attribute [local go_sem] run_bslC run_bslR
set_option maxRecDepth 1000000
set_option maxHeartbeats 4000000 in
theorem parses_any (s : ByteArray) (w : World) (hF : Forms w) : Calls Tryz.prog 4 #[.string s] w fun e w' => e = .returned (.bool true) ∧ Below w.heap.size w w' := by
  have HF := Lib.hid hF
  have HA := Lib.hid (awake_any w hF)
  clear hF
  by_cases hs : 4000 < s.size
  · have hg : (4000 : Int) < (s.size : Int) := by omega
    go_enter Tryz.func4, Tryz.ntmps4
    go_wp2_with (go_at_call 6; refine (HA.out).mono ?_; rintro e w1 ⟨rfl, hb1⟩)
    go_ret
    exact ⟨rfl, hb1⟩
  have hg : decide ((4000 : Int) < (s.size : Int)) = false := decide_eq_false (by omega)
  clear hs
  obtain ⟨L, E, hL, hPB, hRB⟩ := lists s
  have HL := Lib.hid hL
  have HPB := Lib.hid hPB
  have HRB := Lib.hid hRB
  have HP := Lib.hid (fun W (hW : Forms W) => parse_any s W hW)
  have HRP := Lib.hid (fun W => refParse_any s W)
  rw [parse_same] at HP
  have HX := Lib.hid (fun b W (hR : Rd W b s 0) (hV : Forms W) (h0 : 0 < b) => read_any b s 0 W hR hV h0)
  have HY := Lib.hid (fun b W (hR : Rd W b s 0) => refRead_any b s 0 W hR)
  have HEQ : Hid ((readR s 0).2.2 = 0 → (readC s 0).1 = (readR s 0).1) := Lib.hid (fun h => by rw [readC_ok s 0 h])
  rw [readC_rest] at HX
  clear hL hPB hRB
  revert HP HRP HX HY HEQ
  generalize parseD s = X
  generalize (readC s 0).1 = xc
  generalize readR s 0 = Y
  obtain ⟨pc, pe⟩ := X
  obtain ⟨yc, s2, e2⟩ := Y
  intro HP HRP HX HY HEQ
  simp only at HP HRP HX HY HEQ
  have HO := Lib.hid (fun W => over_any s W)
  go_enter Tryz.func4, Tryz.ntmps4
  go_wp2_with (first
    | (go_at_call 6; refine (HA.out).mono ?_; rintro e w1 ⟨rfl, hb1⟩; have HB1 := Lib.hid hb1; have HF1 := Lib.hid (HF.out.below hb1 HF.out.lt); clear hb1)
    | (go_at_call 13; refine (HP.out _ HF1.out).mono ?_; rintro e w2 ⟨rfl, hb2⟩; obtain ⟨hst2, hx2, hs2⟩ := stashC w2 pc; have HB2 := Lib.hid (below_step (below_step HB1.out hb2) hs2); have HF2 := Lib.hid ((HF1.out.below hb2 HF1.out.lt).below hs2 (HF1.out.below hb2 HF1.out.lt).lt); have HX2 := Lib.hid hx2; clear hb2 hs2 hx2)
    | (go_at_call 14; refine (HRP.out _).mono ?_; rintro e w3 ⟨rfl, hb3⟩; obtain ⟨hst3, hx3, hs3⟩ := stashR w3 pc; have HB3 := Lib.hid (below_step (below_step HB2.out hb3) hs3); have HF3 := Lib.hid ((HF2.out.below hb3 HF2.out.lt).below hs3 (HF2.out.below hb3 HF2.out.lt).lt); have HX23 := Lib.hid ((HX2.out.belowB hb3 HX2.out.lt).belowB hs3 (HX2.out.belowB hb3 HX2.out.lt).lt); have HX3 := Lib.hid hx3; clear hb3 hs3 hx3)
    | (go_at_call 15; refine (HPB.out _ HF3.out).mono ?_; rintro e w4 ⟨v4, rfl, hs4, hb4⟩; have HB4 := Lib.hid (below_step HB3.out hb4); have HF4 := Lib.hid (HF3.out.below hb4 HF3.out.lt); have HXA4 := Lib.hid (HX23.out.belowB hb4 HX23.out.lt); have HXB4 := Lib.hid (HX3.out.belowB hb4 HX3.out.lt); obtain ⟨a4, c4, rfl⟩ := hs4.slice; have HS4 := Lib.hid hs4; clear hb4 hs4)
    | (go_at_call 16; refine (HRB.out _).mono ?_; rintro e w5 ⟨v5, rfl, hs5, hb5⟩; have HB5 := Lib.hid (below_step HB4.out hb5); have HF5 := Lib.hid (HF4.out.below hb5 HF4.out.lt); have HS45 := Lib.hid (HS4.out.below hb5); have HXA5 := Lib.hid (HXA4.out.belowB hb5 HXA4.out.lt); have HXB5 := Lib.hid (HXB4.out.belowB hb5 HXB4.out.lt); obtain ⟨a5, c5, rfl⟩ := hs5.slice; have HS5 := Lib.hid hs5; clear hb5 hs5)
    | (go_at_call 17; refine (HO.out _).mono ?_; rintro e w6 ⟨rfl, hr6, hb6⟩; have HBO := Lib.hid hb6; have HF6 := Lib.hid (HF5.out.below hb6 HF5.out.lt); have HS46 := Lib.hid (HS45.out.below hb6); have HS56 := Lib.hid (HS5.out.below hb6); have HXA6 := Lib.hid ((HXA5.out.belowB hb6 HXA5.out.lt).alloc (.cells #[.string s, .int .i64 0] 56)); have HXB6 := Lib.hid ((HXB5.out.belowB hb6 HXB5.out.lt).alloc (.cells #[.string s, .int .i64 0] 56)); have HR6 := Lib.hid hr6; clear hb6 hr6)
    | (go_at_call 18; refine (HX.out _ _ (HR6.out.alloc _) (HF6.out.alloc _) (Nat.lt_of_le_of_lt (Nat.zero_le _) HF5.out.lt)).mono ?_; rintro e w7 ⟨rfl, hr7, hm7⟩; have HR7 := Lib.hid hr7; have HM7 := Lib.hid hm7; have HXA7 := Lib.hid (HXA6.out.modN hm7 (Nat.ne_of_lt HXA5.out.lt)); have HXB7 := Lib.hid (HXB6.out.modN hm7 (Nat.ne_of_lt HXB5.out.lt)); have HQ7 := Lib.hid (rdMod (rdNew w6 s) hm7 (by simp) (by have := HR6.out.lt; omega)); clear hr7 hm7)
    | (go_at_call 19; refine (HY.out _ _ HQ7.out).mono ?_; rintro e w8 ⟨rfl, hr8, hm8⟩; have HM8 := Lib.hid hm8; have HR8 := Lib.hid (rdMod HR7.out hm8 (HR7.out.lt) (by have := HR6.out.lt; omega)); have HQ8 := Lib.hid hr8; have HXA8 := Lib.hid (HXA7.out.modN hm8 (by have := HXA5.out.lt; have := HR6.out.lt; omega)); have HXB8 := Lib.hid (HXB7.out.modN hm8 (by have := HXB5.out.lt; have := HR6.out.lt; omega)); obtain ⟨hst8, hst9, hx8, hx9, hs8⟩ := stash2 w8 xc yc; have HS8 := Lib.hid hs8; have HX8 := Lib.hid hx8; have HX9 := Lib.hid hx9; clear hs8 hx8 hx9 hr8 hm8))
  have hk1 : Below w5.heap.size w5 (w6.alloc (.cells #[.string s, .int .i64 0] 56)) := below_step HBO.out ((Below.refl _ _).alloc (Nat.le_refl _) _)
  have hk2 : Below w5.heap.size w5 w7 := hk1.trans (HM7.out.below (Nat.le_refl _) hk1.size)
  have hk3 : Below w5.heap.size w5 w8 := hk2.trans (HM8.out.below HBO.out.size hk2.size)
  have hk := hk3.trans (HS8.out.mono hk3.size)
  have HH : Hid (Hd w2.heap.size w3.heap.size w8.heap.size (w8.heap.size + 1) w5.heap.size w6.heap.size pc xc yc s2 e2 w (setFrom (setFrom ((w8.alloc (objC (Cm.zero 0))).alloc (objR (Cm.zero 0))) w8.heap.size 0 xc.vals) (w8.heap.size + 1) 0 yc.vals)) :=
    Lib.hid ⟨HXA5.out.belowB hk HXA5.out.lt, HXB5.out.belowB hk HXB5.out.lt, HX8.out, HX9.out, HR8.out.below HS8.out, HQ8.out.below HS8.out, below_step HB5.out hk⟩
  have HSA : Hid (SlG Cm.vals 18 (setFrom (setFrom ((w8.alloc (objC (Cm.zero 0))).alloc (objR (Cm.zero 0))) w8.heap.size 0 xc.vals) (w8.heap.size + 1) 0 yc.vals) (.slice a4 L.length c4) L) := HS45.out.below hk
  have HSB : Hid (SlG Cm.vals 18 (setFrom (setFrom ((w8.alloc (objC (Cm.zero 0))).alloc (objR (Cm.zero 0))) w8.heap.size 0 xc.vals) (w8.heap.size + 1) 0 yc.vals) (.slice a5 L.length c5) L) := HS5.out.below hk
  clear hk hk1 hk2 hk3 HX8 HX9 HS8 HR8 HQ8 HM7 HM8 hst2 hst3 hst8 hst9
  generalize (setFrom (setFrom ((w8.alloc (objC (Cm.zero 0))).alloc (objR (Cm.zero 0))) w8.heap.size 0 xc.vals) (w8.heap.size + 1) 0 yc.vals) = W at HH HSA HSB ⊢
  have HHd := Lib.hid (hdStep HH.out ((Below.refl W.heap.size W).drew))
  have HSAd := Lib.hid (HSA.out.below (Below.refl W.heap.size W).drew)
  have HSBd := Lib.hid (HSB.out.below (Below.refl W.heap.size W).drew)
  obtain ⟨hl1, hl2, hl3, hl4, hc0, hc1, HD⟩ := hdS HH.out
  by_cases he : e2 = 0
  · have hxy := HEQ.out he
    subst hxy
    subst he
    go_region_held3 (fun W' => (loadC ⟨w2.heap.size, 0, none⟩).run Tryz.prog W' = .ok pc.agg W' ∧ (loadR ⟨w3.heap.size, 0, none⟩).run Tryz.prog W' = .ok pc.agg W' ∧ (loadC ⟨w8.heap.size, 0, none⟩).run Tryz.prog W' = .ok xc.agg W' ∧ (loadR ⟨w8.heap.size + 1, 0, none⟩).run Tryz.prog W' = .ok xc.agg W' ∧ W'.cell? ⟨w6.heap.size, 0, none⟩ = some (.string s2) ∧ W'.cell? ⟨w6.heap.size, 1, none⟩ = some (.int .i64 (0 : Int)) ∧ Hid (Hd w2.heap.size w3.heap.size w8.heap.size (w8.heap.size + 1) w5.heap.size w6.heap.size pc xc xc s2 (0 : Int) w W'))
      ((first | with_reducible assumption | exact hdS HHd.out | exact sStep (by assumption) hb))
      (first
      | (go_at_call 23; refine (leftT (by assumption)).mono ?_; rintro e _ ⟨rfl, rfl⟩)
      | (go_at_call 23; refine (leftS (by assumption)).mono ?_; rintro e _ ⟨rfl, rfl⟩)
      | (go_at_call 22; refine (errT (by assumption)).mono ?_; rintro e _ ⟨rfl, rfl⟩)
      | (go_at_call 22; refine (errS (by assumption)).mono ?_; rintro e _ ⟨rfl, rfl⟩)
      | (go_at_call 20; refine (same2 _ _ L HL.out _ (RowG.sl encV HT.out) (HSC.out)).mono ?_; rintro e w11 ⟨rfl, hb⟩)
      | (go_at_call 21; refine (to_any _ L (Nat.le_trans HL.out (by decide)) _ HSAd.out).mono ?_; rintro e w10 ⟨v10, rfl, hr10, hb⟩; obtain ⟨a10, c10, rfl⟩ := hr10.slice; have HT := Lib.hid hr10; have HSC := Lib.hid (HSBd.out.below hb); clear hr10))
    rename_i hS
    have hZ := Lib.hid hS
    clear hS
    go_wp2
    go_ret
    exact ⟨rfl, hZ.out.2.2.2.2.2.2.out.2.2.2.2.2.2⟩
  · have hne : (e2 != 0) = true := by rw [bne_iff_ne]; exact he
    refine wp_region_noPanic ?_
    refine wp_region_held_drew (S := (fun W' => (loadC ⟨w2.heap.size, 0, none⟩).run Tryz.prog W' = .ok pc.agg W' ∧ (loadR ⟨w3.heap.size, 0, none⟩).run Tryz.prog W' = .ok pc.agg W' ∧ (loadC ⟨w8.heap.size, 0, none⟩).run Tryz.prog W' = .ok xc.agg W' ∧ (loadR ⟨w8.heap.size + 1, 0, none⟩).run Tryz.prog W' = .ok yc.agg W' ∧ W'.cell? ⟨w6.heap.size, 0, none⟩ = some (.string s2) ∧ W'.cell? ⟨w6.heap.size, 1, none⟩ = some (.int .i64 e2) ∧ Hid (Hd w2.heap.size w3.heap.size w8.heap.size (w8.heap.size + 1) w5.heap.size w6.heap.size pc xc yc s2 e2 w W'))) (by kernel_rfl) (hdS HHd.out) (fun hHeld => ?_)
    refine wpAnyH_take (i := 0) (v := ?hv0) rfl (by kernel_rfl) (by kernel_rfl) (by kernel_rfl) (fun _ _ _ h => h) (Or.inl ⟨by rfl, ?hy0⟩) (by assumption) ?_
    case hy0 => (intro w hSw; (try dsimp only at hSw); (try simp only [List.getElem_toArray, List.getElem_cons_zero]); go_simp; (try with_reducible rfl))
    try simp only [Act.put, List.setIfInBounds_toArray, List.set_cons_zero, List.set_cons_succ, List.getElem_toArray, List.getElem_cons_zero]
    refine wpAnyH_take (i := 1) (v := ?hv1) rfl (by kernel_rfl) (by kernel_rfl) (by kernel_rfl) (fun _ _ _ h => h) (Or.inl ⟨by rfl, ?hy1⟩) (by assumption) ?_
    case hy1 => (intro w hSw; (try dsimp only at hSw); (try simp only [List.getElem_toArray, List.getElem_cons_succ, List.getElem_cons_zero]); go_simp; (try with_reducible rfl))
    try simp only [Act.put, List.setIfInBounds_toArray, List.set_cons_zero, List.set_cons_succ, List.getElem_toArray, List.getElem_cons_succ, List.getElem_cons_zero]
    refine wpAnyH_take (i := 2) (v := ?hv2) rfl (by kernel_rfl) (by kernel_rfl) (by kernel_rfl) (fun _ _ _ h => h) (Or.inl ⟨by rfl, ?hy2⟩) (by assumption) ?_
    case hy2 => (intro w hSw; (try dsimp only at hSw); (try simp only [List.getElem_toArray, List.getElem_cons_succ, List.getElem_cons_zero]); go_simp; (try with_reducible rfl))
    try simp only [Act.put, List.setIfInBounds_toArray, List.set_cons_zero, List.set_cons_succ, List.getElem_toArray, List.getElem_cons_succ, List.getElem_cons_zero]
    refine wpAnyH_take (i := 3) (v := ?hv3) rfl (by kernel_rfl) (by kernel_rfl) (by kernel_rfl) (fun _ _ _ h => h) (Or.inl ⟨by rfl, ?hy3⟩) (by assumption) ?_
    case hy3 => (intro w hSw; (try dsimp only at hSw); (try simp only [List.getElem_toArray, List.getElem_cons_succ, List.getElem_cons_zero]); go_simp; (try with_reducible rfl))
    try simp only [Act.put, List.setIfInBounds_toArray, List.set_cons_zero, List.set_cons_succ, List.getElem_toArray, List.getElem_cons_succ, List.getElem_cons_zero]
    refine wpAnyH_take (i := 4) (v := ?hv4) rfl (by kernel_rfl) (by kernel_rfl) (by kernel_rfl) (fun _ _ _ h => h) (Or.inl ⟨by rfl, ?hy4⟩) (by assumption) ?_
    case hy4 => (intro w hSw; (try dsimp only at hSw); (try simp only [List.getElem_toArray, List.getElem_cons_succ, List.getElem_cons_zero]); go_simp; (try with_reducible rfl))
    try simp only [Act.put, List.setIfInBounds_toArray, List.set_cons_zero, List.set_cons_succ, List.getElem_toArray, List.getElem_cons_succ, List.getElem_cons_zero]
    refine wpAnyH_take (i := 5) (v := ?hv5) rfl (by kernel_rfl) (by kernel_rfl) (by kernel_rfl) (fun _ _ _ h => h) (Or.inl ⟨by rfl, ?hy5⟩) (by assumption) ?_
    case hy5 => (intro w hSw; (try dsimp only at hSw); (try simp only [List.getElem_toArray, List.getElem_cons_succ, List.getElem_cons_zero]); go_simp; (try with_reducible rfl))
    try simp only [Act.put, List.setIfInBounds_toArray, List.set_cons_zero, List.set_cons_succ, List.getElem_toArray, List.getElem_cons_succ, List.getElem_cons_zero]
    refine wpAnyH_take (i := 6) (v := ?hv6) rfl (by kernel_rfl) (by kernel_rfl) (by kernel_rfl) (fun _ _ _ h => h) (Or.inl ⟨by rfl, ?hy6⟩) (by assumption) ?_
    case hy6 => (intro w hSw; (try dsimp only at hSw); (try simp only [List.getElem_toArray, List.getElem_cons_succ, List.getElem_cons_zero]); go_simp; (try with_reducible rfl))
    try simp only [Act.put, List.setIfInBounds_toArray, List.set_cons_zero, List.set_cons_succ, List.getElem_toArray, List.getElem_cons_succ, List.getElem_cons_zero]
    refine wpAnyH_take (i := 7) (v := ?hv7) rfl (by kernel_rfl) (by kernel_rfl) (by kernel_rfl) (fun _ _ _ h => h) (Or.inl ⟨by rfl, ?hy7⟩) (by assumption) ?_
    case hy7 => (intro w hSw; (try dsimp only at hSw); (try simp only [List.getElem_toArray, List.getElem_cons_succ, List.getElem_cons_zero]); go_simp; (try with_reducible rfl))
    try simp only [Act.put, List.setIfInBounds_toArray, List.set_cons_zero, List.set_cons_succ, List.getElem_toArray, List.getElem_cons_succ, List.getElem_cons_zero]
    refine wpAnyH_take (i := 8) (v := ?hv8) rfl (by kernel_rfl) (by kernel_rfl) (by kernel_rfl) (fun _ _ _ h => h) (Or.inl ⟨by rfl, ?hy8⟩) (by assumption) ?_
    case hy8 => (intro w hSw; (try dsimp only at hSw); (try simp only [List.getElem_toArray, List.getElem_cons_succ, List.getElem_cons_zero]); go_simp; (try with_reducible rfl))
    try simp only [Act.put, List.setIfInBounds_toArray, List.set_cons_zero, List.set_cons_succ, List.getElem_toArray, List.getElem_cons_succ, List.getElem_cons_zero]
    refine wpAnyH_take (i := 9) (v := ?hv9) rfl (by kernel_rfl) (by kernel_rfl) (by kernel_rfl) (fun _ _ _ h => h) (Or.inl ⟨by rfl, ?hy9⟩) (by assumption) ?_
    case hy9 => (intro w hSw; (try dsimp only at hSw); (try simp only [List.getElem_toArray, List.getElem_cons_succ, List.getElem_cons_zero]); go_simp; (try with_reducible rfl))
    try simp only [Act.put, List.setIfInBounds_toArray, List.set_cons_zero, List.set_cons_succ, List.getElem_toArray, List.getElem_cons_succ, List.getElem_cons_zero]
    refine wpAnyH_take (i := 11) (v := ?hv11) rfl (by kernel_rfl) (by kernel_rfl) (by kernel_rfl) (fun _ _ _ h => h) (Or.inl ⟨by rfl, ?hy11⟩) (by assumption) ?_
    case hy11 => (intro w hSw; (try dsimp only at hSw); (try simp only [List.getElem_toArray, List.getElem_cons_succ, List.getElem_cons_zero]); go_simp; (try with_reducible rfl))
    try simp only [Act.put, List.setIfInBounds_toArray, List.set_cons_zero, List.set_cons_succ, List.getElem_toArray, List.getElem_cons_succ, List.getElem_cons_zero]
    refine wpAnyH_ready (rs := [10]) (by kernel_rfl) (by simp) ?_
    refine AllReadyH.cons rfl (fun K hK => ?_) AllReadyH.nil
    try simp only [List.getElem_toArray, List.getElem_cons_succ, List.getElem_cons_zero]
    go_simp
    (go_at_call 21; refine (to_any _ L (Nat.le_trans HL.out (by decide)) _ HSAd.out).mono ?_; rintro e w10 ⟨v10, rfl, hr10, hb⟩; obtain ⟨a10, c10, rfl⟩ := hr10.slice; have HT := Lib.hid hr10; have HSC := Lib.hid (HSBd.out.below hb); clear hr10)
    refine hK.out _ _ ?hk10 (fun hHeld => ?_)
    case hk10 => (first | with_reducible assumption | exact hdS HHd.out | exact sStep (by assumption) hb)
    clear hK K
    try simp only [Act.put, List.setIfInBounds_toArray, List.set_cons_zero, List.set_cons_succ, List.getElem_toArray, List.getElem_cons_succ, List.getElem_cons_zero]
    try go_simp
    refine wpAnyH_ready (rs := [12]) (by kernel_rfl) (by simp) ?_
    refine AllReadyH.cons rfl (fun K hK => ?_) AllReadyH.nil
    try simp only [List.getElem_toArray, List.getElem_cons_succ, List.getElem_cons_zero]
    go_simp
    (go_at_call 20; refine (same2 _ _ L HL.out _ (RowG.sl encV HT.out) (HSC.out)).mono ?_; rintro e w11 ⟨rfl, hb⟩)
    refine hK.out _ _ ?hk12 (fun hHeld => ?_)
    case hk12 => (first | with_reducible assumption | exact hdS HHd.out | exact sStep (by assumption) hb)
    clear hK K
    try simp only [Act.put, List.setIfInBounds_toArray, List.set_cons_zero, List.set_cons_succ, List.getElem_toArray, List.getElem_cons_succ, List.getElem_cons_zero]
    refine wpAnyH_take (i := 13) (v := ?hv13) rfl (by kernel_rfl) (by kernel_rfl) (by kernel_rfl) (fun _ _ _ h => h) (Or.inl ⟨by rfl, ?hy13⟩) (by assumption) ?_
    case hy13 => (intro w hSw; (try dsimp only at hSw); (try simp only [List.getElem_toArray, List.getElem_cons_succ, List.getElem_cons_zero]); go_simp; (try with_reducible rfl))
    try simp only [Act.put, List.setIfInBounds_toArray, List.set_cons_zero, List.set_cons_succ, List.getElem_toArray, List.getElem_cons_succ, List.getElem_cons_zero]
    refine wpAnyH_take (i := 14) (v := ?hv14) rfl (by kernel_rfl) (by kernel_rfl) (by kernel_rfl) (fun _ _ _ h => h) (Or.inl ⟨by rfl, ?hy14⟩) (by assumption) ?_
    case hy14 => (intro w hSw; (try dsimp only at hSw); (try simp only [List.getElem_toArray, List.getElem_cons_succ, List.getElem_cons_zero]); go_simp; (try with_reducible rfl))
    try simp only [Act.put, List.setIfInBounds_toArray, List.set_cons_zero, List.set_cons_succ, List.getElem_toArray, List.getElem_cons_succ, List.getElem_cons_zero]
    refine wpAnyH_take (i := 15) (v := ?hv15) rfl (by kernel_rfl) (by kernel_rfl) (by kernel_rfl) (fun _ _ _ h => h) (Or.inl ⟨by rfl, ?hy15⟩) (by assumption) ?_
    case hy15 => (intro w hSw; (try dsimp only at hSw); (try simp only [List.getElem_toArray, List.getElem_cons_succ, List.getElem_cons_zero]); go_simp; (try with_reducible rfl))
    try simp only [Act.put, List.setIfInBounds_toArray, List.set_cons_zero, List.set_cons_succ, List.getElem_toArray, List.getElem_cons_succ, List.getElem_cons_zero]
    refine wpAnyH_take (i := 16) (v := ?hv16) rfl (by kernel_rfl) (by kernel_rfl) (by kernel_rfl) (fun _ _ _ h => h) (Or.inl ⟨by rfl, ?hy16⟩) (by assumption) ?_
    case hy16 => (intro w hSw; (try dsimp only at hSw); (try simp only [List.getElem_toArray, List.getElem_cons_succ, List.getElem_cons_zero]); go_simp; (try with_reducible rfl))
    try simp only [Act.put, List.setIfInBounds_toArray, List.set_cons_zero, List.set_cons_succ, List.getElem_toArray, List.getElem_cons_succ, List.getElem_cons_zero]
    refine wpAnyH_take (i := 17) (v := ?hv17) rfl (by kernel_rfl) (by kernel_rfl) (by kernel_rfl) (fun _ _ _ h => h) (Or.inl ⟨by rfl, ?hy17⟩) (by assumption) ?_
    case hy17 => (intro w hSw; (try dsimp only at hSw); (try simp only [List.getElem_toArray, List.getElem_cons_succ, List.getElem_cons_zero]); go_simp; (try with_reducible rfl))
    try simp only [Act.put, List.setIfInBounds_toArray, List.set_cons_zero, List.set_cons_succ, List.getElem_toArray, List.getElem_cons_succ, List.getElem_cons_zero]
    refine wpAnyH_take (i := 18) (v := ?hv18) rfl (by kernel_rfl) (by kernel_rfl) (by kernel_rfl) (fun _ _ _ h => h) (Or.inl ⟨by rfl, ?hy18⟩) (by assumption) ?_
    case hy18 => (intro w hSw; (try dsimp only at hSw); (try simp only [List.getElem_toArray, List.getElem_cons_succ, List.getElem_cons_zero]); go_simp; (try with_reducible rfl))
    try simp only [Act.put, List.setIfInBounds_toArray, List.set_cons_zero, List.set_cons_succ, List.getElem_toArray, List.getElem_cons_succ, List.getElem_cons_zero]
    refine wpAnyH_take (i := 19) (v := ?hv19) rfl (by kernel_rfl) (by kernel_rfl) (by kernel_rfl) (fun _ _ _ h => h) (Or.inl ⟨by rfl, ?hy19⟩) (by assumption) ?_
    case hy19 => (intro w hSw; (try dsimp only at hSw); (try simp only [List.getElem_toArray, List.getElem_cons_succ, List.getElem_cons_zero]); go_simp; (try with_reducible rfl))
    try simp only [Act.put, List.setIfInBounds_toArray, List.set_cons_zero, List.set_cons_succ, List.getElem_toArray, List.getElem_cons_succ, List.getElem_cons_zero]
    refine wpAnyH_take (i := 20) (v := ?hv20) rfl (by kernel_rfl) (by kernel_rfl) (by kernel_rfl) (fun _ _ _ h => h) (Or.inl ⟨by rfl, ?hy20⟩) (by assumption) ?_
    case hy20 => (intro w hSw; (try dsimp only at hSw); (try simp only [List.getElem_toArray, List.getElem_cons_succ, List.getElem_cons_zero]); go_simp; (try with_reducible rfl))
    try simp only [Act.put, List.setIfInBounds_toArray, List.set_cons_zero, List.set_cons_succ, List.getElem_toArray, List.getElem_cons_succ, List.getElem_cons_zero]
    refine wpAnyH_take (i := 21) (v := ?hv21) rfl (by kernel_rfl) (by kernel_rfl) (by kernel_rfl) (fun _ _ _ h => h) (Or.inl ⟨by rfl, ?hy21⟩) (by assumption) ?_
    case hy21 => (intro w hSw; (try dsimp only at hSw); (try simp only [List.getElem_toArray, List.getElem_cons_succ, List.getElem_cons_zero]); go_simp; (try with_reducible rfl))
    try simp only [Act.put, List.setIfInBounds_toArray, List.set_cons_zero, List.set_cons_succ, List.getElem_toArray, List.getElem_cons_succ, List.getElem_cons_zero]
    refine wpAnyH_take (i := 22) (v := ?hv22) rfl (by kernel_rfl) (by kernel_rfl) (by kernel_rfl) (fun _ _ _ h => h) (Or.inl ⟨by rfl, ?hy22⟩) (by assumption) ?_
    case hy22 => (intro w hSw; (try dsimp only at hSw); (try simp only [List.getElem_toArray, List.getElem_cons_succ, List.getElem_cons_zero]); go_simp; (try with_reducible rfl))
    try simp only [Act.put, List.setIfInBounds_toArray, List.set_cons_zero, List.set_cons_succ, List.getElem_toArray, List.getElem_cons_succ, List.getElem_cons_zero]
    refine wpAnyH_take (i := 23) (v := ?hv23) rfl (by kernel_rfl) (by kernel_rfl) (by kernel_rfl) (fun _ _ _ h => h) (Or.inl ⟨by rfl, ?hy23⟩) (by assumption) ?_
    case hy23 => (intro w hSw; (try dsimp only at hSw); (try simp only [List.getElem_toArray, List.getElem_cons_succ, List.getElem_cons_zero]); go_simp; (try with_reducible rfl))
    try simp only [Act.put, List.setIfInBounds_toArray, List.set_cons_zero, List.set_cons_succ, List.getElem_toArray, List.getElem_cons_succ, List.getElem_cons_zero]
    refine wpAnyH_take (i := 24) (v := ?hv24) rfl (by kernel_rfl) (by kernel_rfl) (by kernel_rfl) (fun _ _ _ h => h) (Or.inl ⟨by rfl, ?hy24⟩) (by assumption) ?_
    case hy24 => (intro w hSw; (try dsimp only at hSw); (try simp only [List.getElem_toArray, List.getElem_cons_succ, List.getElem_cons_zero]); go_simp; (try with_reducible rfl))
    try simp only [Act.put, List.setIfInBounds_toArray, List.set_cons_zero, List.set_cons_succ, List.getElem_toArray, List.getElem_cons_succ, List.getElem_cons_zero]
    refine wpAnyH_take (i := 25) (v := ?hv25) rfl (by kernel_rfl) (by kernel_rfl) (by kernel_rfl) (fun _ _ _ h => h) (Or.inl ⟨by rfl, ?hy25⟩) (by assumption) ?_
    case hy25 => (intro w hSw; (try dsimp only at hSw); (try simp only [List.getElem_toArray, List.getElem_cons_succ, List.getElem_cons_zero]); go_simp; (try with_reducible rfl))
    try simp only [Act.put, List.setIfInBounds_toArray, List.set_cons_zero, List.set_cons_succ, List.getElem_toArray, List.getElem_cons_succ, List.getElem_cons_zero]
    refine wpAnyH_take (i := 26) (v := undef) rfl (by kernel_rfl) (by kernel_rfl) (by kernel_rfl) (fun _ _ _ h => h) (Or.inr ⟨by rfl, rfl⟩) (by assumption) ?_
    try simp only [Act.put, List.setIfInBounds_toArray, List.set_cons_zero, List.set_cons_succ, List.getElem_toArray, List.getElem_cons_succ, List.getElem_cons_zero]
    refine wpAnyH_take (i := 27) (v := undef) rfl (by kernel_rfl) (by kernel_rfl) (by kernel_rfl) (fun _ _ _ h => h) (Or.inr ⟨by rfl, rfl⟩) (by assumption) ?_
    try simp only [Act.put, List.setIfInBounds_toArray, List.set_cons_zero, List.set_cons_succ, List.getElem_toArray, List.getElem_cons_succ, List.getElem_cons_zero]
    refine wpAnyH_take (i := 28) (v := undef) rfl (by kernel_rfl) (by kernel_rfl) (by kernel_rfl) (fun _ _ _ h => h) (Or.inr ⟨by rfl, rfl⟩) (by assumption) ?_
    try simp only [Act.put, List.setIfInBounds_toArray, List.set_cons_zero, List.set_cons_succ, List.getElem_toArray, List.getElem_cons_succ, List.getElem_cons_zero]
    refine wpAnyH_take (i := 29) (v := ?hv29) rfl (by kernel_rfl) (by kernel_rfl) (by kernel_rfl) (fun _ _ _ h => h) (Or.inl ⟨by rfl, ?hy29⟩) (by assumption) ?_
    case hy29 => (intro w hSw; (try dsimp only at hSw); (try simp only [List.getElem_toArray, List.getElem_cons_succ, List.getElem_cons_zero]); go_simp; (try with_reducible rfl))
    try simp only [Act.put, List.setIfInBounds_toArray, List.set_cons_zero, List.set_cons_succ, List.getElem_toArray, List.getElem_cons_succ, List.getElem_cons_zero]
    refine wpAnyH_take (i := 30) (v := ?hv30) rfl (by kernel_rfl) (by kernel_rfl) (by kernel_rfl) (fun _ _ _ h => h) (Or.inl ⟨by rfl, ?hy30⟩) (by assumption) ?_
    case hy30 => (intro w hSw; (try dsimp only at hSw); (try simp only [List.getElem_toArray, List.getElem_cons_succ, List.getElem_cons_zero]); go_simp; (try with_reducible rfl))
    try simp only [Act.put, List.setIfInBounds_toArray, List.set_cons_zero, List.set_cons_succ, List.getElem_toArray, List.getElem_cons_succ, List.getElem_cons_zero]
    refine wpAnyH_take (i := 31) (v := ?hv31) rfl (by kernel_rfl) (by kernel_rfl) (by kernel_rfl) (fun _ _ _ h => h) (Or.inl ⟨by rfl, ?hy31⟩) (by assumption) ?_
    case hy31 => (intro w hSw; (try dsimp only at hSw); (try simp only [List.getElem_toArray, List.getElem_cons_succ, List.getElem_cons_zero]); go_simp; (try with_reducible rfl))
    try simp only [Act.put, List.setIfInBounds_toArray, List.set_cons_zero, List.set_cons_succ, List.getElem_toArray, List.getElem_cons_succ, List.getElem_cons_zero]
    refine wpAnyH_take (i := 32) (v := ?hv32) rfl (by kernel_rfl) (by kernel_rfl) (by kernel_rfl) (fun _ _ _ h => h) (Or.inl ⟨by rfl, ?hy32⟩) (by assumption) ?_
    case hy32 => (intro w hSw; (try dsimp only at hSw); (try simp only [List.getElem_toArray, List.getElem_cons_succ, List.getElem_cons_zero]); go_simp; (try with_reducible rfl))
    try simp only [Act.put, List.setIfInBounds_toArray, List.set_cons_zero, List.set_cons_succ, List.getElem_toArray, List.getElem_cons_succ, List.getElem_cons_zero]
    refine wpAnyH_take (i := 34) (v := ?hv34) rfl (by kernel_rfl) (by kernel_rfl) (by kernel_rfl) (fun _ _ _ h => h) (Or.inl ⟨by rfl, ?hy34⟩) (by assumption) ?_
    case hy34 => (intro w hSw; (try dsimp only at hSw); (try simp only [List.getElem_toArray, List.getElem_cons_succ, List.getElem_cons_zero]); go_simp; (try with_reducible rfl))
    try simp only [Act.put, List.setIfInBounds_toArray, List.set_cons_zero, List.set_cons_succ, List.getElem_toArray, List.getElem_cons_succ, List.getElem_cons_zero]
    refine wpAnyH_take (i := 35) (v := ?hv35) rfl (by kernel_rfl) (by kernel_rfl) (by kernel_rfl) (fun _ _ _ h => h) (Or.inl ⟨by rfl, ?hy35⟩) (by assumption) ?_
    case hy35 => (intro w hSw; (try dsimp only at hSw); (try simp only [List.getElem_toArray, List.getElem_cons_succ, List.getElem_cons_zero]); go_simp; (try with_reducible rfl))
    try simp only [Act.put, List.setIfInBounds_toArray, List.set_cons_zero, List.set_cons_succ, List.getElem_toArray, List.getElem_cons_succ, List.getElem_cons_zero]
    refine wpAnyH_take (i := 36) (v := ?hv36) rfl (by kernel_rfl) (by kernel_rfl) (by kernel_rfl) (fun _ _ _ h => h) (Or.inl ⟨by rfl, ?hy36⟩) (by assumption) ?_
    case hy36 => (intro w hSw; (try dsimp only at hSw); (try simp only [List.getElem_toArray, List.getElem_cons_succ, List.getElem_cons_zero]); go_simp; (try with_reducible rfl))
    try simp only [Act.put, List.setIfInBounds_toArray, List.set_cons_zero, List.set_cons_succ, List.getElem_toArray, List.getElem_cons_succ, List.getElem_cons_zero]
    refine wpAnyH_take (i := 37) (v := ?hv37) rfl (by kernel_rfl) (by kernel_rfl) (by kernel_rfl) (fun _ _ _ h => h) (Or.inl ⟨by rfl, ?hy37⟩) (by assumption) ?_
    case hy37 => (intro w hSw; (try dsimp only at hSw); (try simp only [List.getElem_toArray, List.getElem_cons_succ, List.getElem_cons_zero]); go_simp; (try with_reducible rfl))
    try simp only [Act.put, List.setIfInBounds_toArray, List.set_cons_zero, List.set_cons_succ, List.getElem_toArray, List.getElem_cons_succ, List.getElem_cons_zero]
    refine wpAnyH_ready (rs := [33]) (by kernel_rfl) (by simp) ?_
    refine AllReadyH.cons rfl (fun K hK => ?_) AllReadyH.nil
    try simp only [List.getElem_toArray, List.getElem_cons_succ, List.getElem_cons_zero]
    go_simp
    (first | (go_at_call 22; refine (errT (by assumption)).mono ?_; rintro e _ ⟨rfl, rfl⟩) | (go_at_call 22; refine (errS (by assumption)).mono ?_; rintro e _ ⟨rfl, rfl⟩))
    refine hK.out _ _ ?hk33 (fun hHeld => ?_)
    case hk33 => (first | with_reducible assumption | exact hdS HHd.out | exact sStep (by assumption) hb)
    clear hK K
    try simp only [Act.put, List.setIfInBounds_toArray, List.set_cons_zero, List.set_cons_succ, List.getElem_toArray, List.getElem_cons_succ, List.getElem_cons_zero]
    refine wpAnyH_take (i := 38) (v := ?hv38) rfl (by kernel_rfl) (by kernel_rfl) (by kernel_rfl) (fun _ _ _ h => h) (Or.inl ⟨by rfl, ?hy38⟩) (by assumption) ?_
    case hy38 => (intro w hSw; (try dsimp only at hSw); (try simp only [List.getElem_toArray, List.getElem_cons_succ, List.getElem_cons_zero]); go_simp; (try with_reducible rfl))
    try simp only [Act.put, List.setIfInBounds_toArray, List.set_cons_zero, List.set_cons_succ, List.getElem_toArray, List.getElem_cons_succ, List.getElem_cons_zero]
    refine wpAnyH_take (i := 39) (v := ?hv39) rfl (by kernel_rfl) (by kernel_rfl) (by kernel_rfl) (fun _ _ _ h => h) (Or.inl ⟨by rfl, ?hy39⟩) (by assumption) ?_
    case hy39 => (intro w hSw; (try dsimp only at hSw); (try simp only [List.getElem_toArray, List.getElem_cons_succ, List.getElem_cons_zero]); go_simp; (try with_reducible rfl))
    try simp only [Act.put, List.setIfInBounds_toArray, List.set_cons_zero, List.set_cons_succ, List.getElem_toArray, List.getElem_cons_succ, List.getElem_cons_zero]
    refine wpAnyH_take (i := 40) (v := ?hv40) rfl (by kernel_rfl) (by kernel_rfl) (by kernel_rfl) (fun _ _ _ h => h) (Or.inl ⟨by rfl, ?hy40⟩) (by assumption) ?_
    case hy40 => (intro w hSw; (try dsimp only at hSw); (try simp only [List.getElem_toArray, List.getElem_cons_succ, List.getElem_cons_zero]); go_simp; (try with_reducible rfl))
    try simp only [Act.put, List.setIfInBounds_toArray, List.set_cons_zero, List.set_cons_succ, List.getElem_toArray, List.getElem_cons_succ, List.getElem_cons_zero]
    refine wpAnyH_take (i := 41) (v := ?hv41) rfl (by kernel_rfl) (by kernel_rfl) (by kernel_rfl) (fun _ _ _ h => h) (Or.inl ⟨by rfl, ?hy41⟩) (by assumption) ?_
    case hy41 => (intro w hSw; (try dsimp only at hSw); (try simp only [List.getElem_toArray, List.getElem_cons_succ, List.getElem_cons_zero]); go_simp; (try with_reducible rfl))
    try simp only [Act.put, List.setIfInBounds_toArray, List.set_cons_zero, List.set_cons_succ, List.getElem_toArray, List.getElem_cons_succ, List.getElem_cons_zero]
    refine wpAnyH_take (i := 43) (v := ?hv43) rfl (by kernel_rfl) (by kernel_rfl) (by kernel_rfl) (fun _ _ _ h => h) (Or.inl ⟨by rfl, ?hy43⟩) (by assumption) ?_
    case hy43 => (intro w hSw; (try dsimp only at hSw); (try simp only [List.getElem_toArray, List.getElem_cons_succ, List.getElem_cons_zero]); go_simp; (try with_reducible rfl))
    try simp only [Act.put, List.setIfInBounds_toArray, List.set_cons_zero, List.set_cons_succ, List.getElem_toArray, List.getElem_cons_succ, List.getElem_cons_zero]
    refine wpAnyH_take (i := 44) (v := ?hv44) rfl (by kernel_rfl) (by kernel_rfl) (by kernel_rfl) (fun _ _ _ h => h) (Or.inl ⟨by rfl, ?hy44⟩) (by assumption) ?_
    case hy44 => (intro w hSw; (try dsimp only at hSw); (try simp only [List.getElem_toArray, List.getElem_cons_succ, List.getElem_cons_zero]); go_simp; (try with_reducible rfl))
    try simp only [Act.put, List.setIfInBounds_toArray, List.set_cons_zero, List.set_cons_succ, List.getElem_toArray, List.getElem_cons_succ, List.getElem_cons_zero]
    refine wpAnyH_take (i := 45) (v := ?hv45) rfl (by kernel_rfl) (by kernel_rfl) (by kernel_rfl) (fun _ _ _ h => h) (Or.inl ⟨by rfl, ?hy45⟩) (by assumption) ?_
    case hy45 => (intro w hSw; (try dsimp only at hSw); (try simp only [List.getElem_toArray, List.getElem_cons_succ, List.getElem_cons_zero]); go_simp; (try with_reducible rfl))
    try simp only [Act.put, List.setIfInBounds_toArray, List.set_cons_zero, List.set_cons_succ, List.getElem_toArray, List.getElem_cons_succ, List.getElem_cons_zero]
    refine wpAnyH_take (i := 46) (v := ?hv46) rfl (by kernel_rfl) (by kernel_rfl) (by kernel_rfl) (fun _ _ _ h => h) (Or.inl ⟨by rfl, ?hy46⟩) (by assumption) ?_
    case hy46 => (intro w hSw; (try dsimp only at hSw); (try simp only [List.getElem_toArray, List.getElem_cons_succ, List.getElem_cons_zero]); go_simp; (try with_reducible rfl))
    try simp only [Act.put, List.setIfInBounds_toArray, List.set_cons_zero, List.set_cons_succ, List.getElem_toArray, List.getElem_cons_succ, List.getElem_cons_zero]
    refine wpAnyH_take (i := 47) (v := ?hv47) rfl (by kernel_rfl) (by kernel_rfl) (by kernel_rfl) (fun _ _ _ h => h) (Or.inl ⟨by rfl, ?hy47⟩) (by assumption) ?_
    case hy47 => (intro w hSw; (try dsimp only at hSw); (try simp only [List.getElem_toArray, List.getElem_cons_succ, List.getElem_cons_zero]); go_simp; (try with_reducible rfl))
    try simp only [Act.put, List.setIfInBounds_toArray, List.set_cons_zero, List.set_cons_succ, List.getElem_toArray, List.getElem_cons_succ, List.getElem_cons_zero]
    refine wpAnyH_ready (rs := [42]) (by kernel_rfl) (by simp) ?_
    refine AllReadyH.cons rfl (fun K hK => ?_) AllReadyH.nil
    try simp only [List.getElem_toArray, List.getElem_cons_succ, List.getElem_cons_zero]
    go_simp
    (first | (go_at_call 23; refine (leftT (by assumption)).mono ?_; rintro e _ ⟨rfl, rfl⟩) | (go_at_call 23; refine (leftS (by assumption)).mono ?_; rintro e _ ⟨rfl, rfl⟩))
    refine hK.out _ _ ?hk42 (fun hHeld => ?_)
    case hk42 => (first | with_reducible assumption | exact hdS HHd.out | exact sStep (by assumption) hb)
    clear hK K
    try simp only [Act.put, List.setIfInBounds_toArray, List.set_cons_zero, List.set_cons_succ, List.getElem_toArray, List.getElem_cons_succ, List.getElem_cons_zero]
    refine wpAnyH_take (i := 48) (v := ?hv48) rfl (by kernel_rfl) (by kernel_rfl) (by kernel_rfl) (fun _ _ _ h => h) (Or.inl ⟨by rfl, ?hy48⟩) (by assumption) ?_
    case hy48 => (intro w hSw; (try dsimp only at hSw); (try simp only [List.getElem_toArray, List.getElem_cons_succ, List.getElem_cons_zero]); go_simp; (try with_reducible rfl))
    try simp only [Act.put, List.setIfInBounds_toArray, List.set_cons_zero, List.set_cons_succ, List.getElem_toArray, List.getElem_cons_succ, List.getElem_cons_zero]
    refine wpAnyH_take (i := 49) (v := ?hv49) rfl (by kernel_rfl) (by kernel_rfl) (by kernel_rfl) (fun _ _ _ h => h) (Or.inl ⟨by rfl, ?hy49⟩) (by assumption) ?_
    case hy49 => (intro w hSw; (try dsimp only at hSw); (try simp only [List.getElem_toArray, List.getElem_cons_succ, List.getElem_cons_zero]); go_simp; (try with_reducible rfl))
    try simp only [Act.put, List.setIfInBounds_toArray, List.set_cons_zero, List.set_cons_succ, List.getElem_toArray, List.getElem_cons_succ, List.getElem_cons_zero]
    refine wpAnyH_take (i := 50) (v := ?hv50) rfl (by kernel_rfl) (by kernel_rfl) (by kernel_rfl) (fun _ _ _ h => h) (Or.inl ⟨by rfl, ?hy50⟩) (by assumption) ?_
    case hy50 => (intro w hSw; (try dsimp only at hSw); (try simp only [List.getElem_toArray, List.getElem_cons_succ, List.getElem_cons_zero]); go_simp; (try with_reducible rfl))
    try simp only [Act.put, List.setIfInBounds_toArray, List.set_cons_zero, List.set_cons_succ, List.getElem_toArray, List.getElem_cons_succ, List.getElem_cons_zero]
    refine wpAnyH_done (by kernel_rfl) ?_ _
    refine NoPanic.normal ?_
    have hZ := Lib.hid hHeld
    clear hHeld
    go_wp2
    go_ret
    exact ⟨rfl, hZ.out.2.2.2.2.2.2.out.2.2.2.2.2.2⟩
end Go.Proofs.YtoekggbbkcmknaaGreatDoor
/- What is laid: the forms. -/
namespace Go.Proofs.YtoekggbbkcmknaaGreatDoor
open Go.ChangeShapes Go.WideShapes Go.RowKit
theorem gForms : Tryz.prog.globalNamed "taproot/command.forms" = some 0 := by kernel_rfl
theorem gFormsT : (Tryz.prog.globals[0]?).map (·.type) = some 99 := by kernel_rfl
theorem cells14 : Tryz.prog.cellsOf 99 = 14 := by kernel_rfl
theorem cells1 : Tryz.prog.cellsOf 9 = 1 := by kernel_rfl
theorem mapM_at {α β : Type} {f : α → Option β} : ∀ (l : List α) (xs : List β), l.mapM f = some xs → ∀ (i : Nat) (x : α), l[i]? = some x → ∃ y, xs[i]? = some y ∧ f x = some y
  | [], _, _, i, x, hx => by simp at hx
  | a :: l, xs, h, i, x, hx => by
    simp only [List.mapM_cons, Option.bind_eq_bind, Option.bind_eq_some_iff, Option.pure_def, Option.some.injEq] at h
    obtain ⟨y, hy, ys, hys, rfl⟩ := h
    cases i with
    | zero => simp at hx; subst hx; exact ⟨y, rfl, hy⟩
    | succ i => exact mapM_at l ys hys i x (by simpa using hx)
theorem strs14 {W : World} {fuel : Nat} {cs : List Value} {ds : List (DataW Unit)} {p : List MemPlace} (h : DataW.trod (fun _ => ()) Tryz.prog W 0 (fun _ => true) false fuel 99 cs = some (.agg ds, p)) :
    ∀ (i : Nat) (l : List UInt8), i < 14 → ds[i]? = some (.lit (.string l)) → cs[i]? = some (.string (str l)) := by
  cases fuel with
  | zero => simp [DataW.trod] at h
  | succ fuel =>
    simp only [DataW.trod, Tryz.underlying99, cells14, cells1] at h
    split at h
    · simp only [Option.map_eq_some_iff] at h
      obtain ⟨xs, hx, he⟩ := h
      intro i l hi hl
      obtain ⟨y, hy, ht⟩ := mapM_at _ _ hx i i (by simp [hi])
      obtain ⟨s, hc, rfl, -⟩ := DataW.trod_string Tryz.underlying9 ht
      have he1 : xs.map (·.1) = ds := by injection he with h1 _; injection h1
      rw [← he1, List.getElem?_map, hy] at hl
      simp only [Option.map_some, Option.some.injEq] at hl
      injection hl with hl
      injection hl with hl
      have h0 : ((cs.drop (i * 1)).take 1)[0]? = some (.string s) := by rw [hc]; rfl
      rw [List.getElem?_take_of_lt (by decide), List.getElem?_drop] at h0
      rw [show i = i * 1 + 0 by omega, h0, ← hl]
      rfl
    · cases h
theorem forms_of_trod {W : World} {fuel : Nat} {cs : Array Value} {p : List MemPlace} (hv : W.var? Tryz.prog "taproot/command.forms" = some cs)
    (h : DataW.trod (fun _ => ()) Tryz.prog W 0 (fun _ => true) false fuel 99 cs.toList = some (Rows.laid_taproot_command_forms, p)) : Forms W := by
  have hs := strs14 h
  intro k h1 h2
  have hc : ∀ (i : Nat) (l : List UInt8), cs.toList[i]? = some (.string (str l)) → W.cell? ⟨0, i, none⟩ = some (.string (str l)) := by
    intro i l hl
    have hi : i < cs.size := by have := (List.getElem?_eq_some_iff.1 hl).1; simpa using this
    rw [World.var?_cell gForms hv i]
    simpa using hl
  obtain ⟨j, rfl⟩ : ∃ j : Nat, k = j := ⟨k.toNat, by omega⟩
  have hj : j < 14 := by omega
  have hj1 : 1 ≤ j := by omega
  show W.cell? ⟨0, j, none⟩ = _
  match j, hj, hj1 with
  | 1, _, _ => exact hc _ _ (hs 1 _ (by decide) rfl)
  | 2, _, _ => exact hc _ _ (hs 2 _ (by decide) rfl)
  | 3, _, _ => exact hc _ _ (hs 3 _ (by decide) rfl)
  | 4, _, _ => exact hc _ _ (hs 4 _ (by decide) rfl)
  | 5, _, _ => exact hc _ _ (hs 5 _ (by decide) rfl)
  | 6, _, _ => exact hc _ _ (hs 6 _ (by decide) rfl)
  | 7, _, _ => exact hc _ _ (hs 7 _ (by decide) rfl)
  | 8, _, _ => exact hc _ _ (hs 8 _ (by decide) rfl)
  | 9, _, _ => exact hc _ _ (hs 9 _ (by decide) rfl)
  | 10, _, _ => exact hc _ _ (hs 10 _ (by decide) rfl)
  | 11, _, _ => exact hc _ _ (hs 11 _ (by decide) rfl)
  | 12, _, _ => exact hc _ _ (hs 12 _ (by decide) rfl)
  | 13, _, _ => exact hc _ _ (hs 13 _ (by decide) rfl)
theorem forms_of_laid1 {W : World} (h : laidMet Tryz.prog [("taproot/command.forms", Rows.laid_taproot_command_forms)] W) : Forms W := by
  obtain ⟨ps, ⟨g, t, cs, fuel, p, q, hg, ht, hvar, hd, _, _⟩, _⟩ := h
  obtain rfl := Option.some.inj (gForms.symm.trans hg)
  obtain rfl := Option.some.inj (gFormsT.symm.trans ht)
  exact forms_of_trod hvar hd
end Go.Proofs.YtoekggbbkcmknaaGreatDoor
