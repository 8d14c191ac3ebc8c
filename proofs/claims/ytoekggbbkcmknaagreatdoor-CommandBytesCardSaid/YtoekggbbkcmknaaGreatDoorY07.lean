/- Texts of one seat, merged. -/
import Derived.Test.YtoekggbbkcmknaaGreatDoorY06
set_option maxRecDepth 100000
set_option maxHeartbeats 4000000
set_option linter.unusedVariables false
/- The document's Read at some kinds. -/
namespace Go.Proofs.YtoekggbbkcmknaaGreatDoor
open Go.RowKit
attribute [local go_sem ↓] zeroC_eq newC_eq loadC_eq storeC_eq buildC_eq zeroR_eq newR_eq loadR_eq storeR_eq buildR_eq
attribute [local go_sem] run_zeroC run_newC run_buildC0 run_buildC1 run_neqC run_eqlC run_guardC run_zeroR run_newR run_buildR0 run_buildR1 run_neqR run_eqlR run_guardR
attribute [local go_sem ↓] bslC_eq bslR_eq
attribute [local go_sem] run_bslC run_bslR
set_option maxRecDepth 1000000
set_option maxHeartbeats 1500000 in
theorem refRead_1 (b : Nat) (bs : ByteArray) (e : Int) (w : World) (h : Rd w b bs e) (hk : Oc.val (tk bs e 1).1.data.toList = 1) (he : (tk bs e 1).2.2 = 0) :
    Calls Tryz.prog 19 #[.pointer (some ⟨b, 0, none⟩)] w fun x w' => x = .returned (readL (form 1) (Cm.zero 1, (tk bs e 1).2.1, 0)).1.agg ∧ Rd w' b (readL (form 1) (Cm.zero 1, (tk bs e 1).2.1, 0)).2.1 (readL (form 1) (Cm.zero 1, (tk bs e 1).2.1, 0)).2.2 ∧ Mod b w w' := by
  have hform : form 1 = [.q, .m, .l, .r, .d] := by decide
  rw [hform]
  simp only [readL, List.foldl_cons, List.foldl_nil]
  have HO := Lib.hid (num1 b bs e _ ((h.alloc (objR (Cm.zero 0))).alloc (objR (Cm.zero 0))))
  rw [hk, he] at HO
  have HLT := Lib.hid h.lt
  have HNE : Hid (True) := trivial
  clear h hform
  go_enter Tryz.func19, Tryz.ntmps19
  go_wp2_with (first
    | (go_at_call 47; refine (refText_rd b _ _ 32 (by decide) _ hR4).mono ?_; rintro x w6 ⟨rfl, hr, hu⟩; obtain ⟨⟨kc4, kf4⟩, hT5, hZ5, hM5, hR5⟩ := st_d (T := (Sg.r.read (Sg.l.read (Sg.m.read (Sg.q.read (Cm.zero 1, (tk bs e 1).2.1, (0 : Int))))))) hT4 hZ4 hM4 rfl HLT.out hr hu; have hl := run_loadR hT5; have hst := run_storeR hZ5 (Sg.d.read (Sg.r.read (Sg.l.read (Sg.m.read (Sg.q.read (Cm.zero 1, (tk bs e 1).2.1, (0 : Int))))))).1; obtain ⟨hz1, hz2⟩ := hZ5.stored (Sg.d.read (Sg.r.read (Sg.l.read (Sg.m.read (Sg.q.read (Cm.zero 1, (tk bs e 1).2.1, (0 : Int))))))).1; have hres := run_loadR hz1)
    | (go_at_call 41; refine (num4 b _ _ _ hR3).mono ?_; rintro x w5 ⟨rfl, hr, hu⟩; have hv3 := vlt32 (Sg.l.read (Sg.m.read (Sg.q.read (Cm.zero 1, (tk bs e 1).2.1, (0 : Int))))).2.1 (Sg.l.read (Sg.m.read (Sg.q.read (Cm.zero 1, (tk bs e 1).2.1, (0 : Int))))).2.2; obtain ⟨⟨kc3, kf3⟩, hT4, hZ4, hM4, hR4⟩ := st_r (T := (Sg.l.read (Sg.m.read (Sg.q.read (Cm.zero 1, (tk bs e 1).2.1, (0 : Int)))))) hT3 hZ3 hM3 rfl HLT.out hr hu)
    | (go_at_call 41; refine (num8 b _ _ _ hR2).mono ?_; rintro x w4 ⟨rfl, hr, hu⟩; obtain ⟨⟨kc2, kf2⟩, hT3, hZ3, hM3, hR3⟩ := st_l (T := (Sg.m.read (Sg.q.read (Cm.zero 1, (tk bs e 1).2.1, (0 : Int))))) hT2 hZ2 hM2 rfl HLT.out hr hu)
    | (go_at_call 41; refine (num4 b _ _ _ hR1).mono ?_; rintro x w3 ⟨rfl, hr, hu⟩; have hv1 := vlt32 (Sg.q.read (Cm.zero 1, (tk bs e 1).2.1, (0 : Int))).2.1 (Sg.q.read (Cm.zero 1, (tk bs e 1).2.1, (0 : Int))).2.2; obtain ⟨⟨kc1, kf1⟩, hT2, hZ2, hM2, hR2⟩ := st_m (T := (Sg.q.read (Cm.zero 1, (tk bs e 1).2.1, (0 : Int)))) hT1 hZ1 hM1 rfl HLT.out hr hu)
    | (go_at_call 47; refine (refText_rd b _ _ 32 (by decide) _ hR0).mono ?_; rintro x w2 ⟨rfl, hr, hu⟩; obtain ⟨⟨kc0, kf0⟩, hT1, hZ1, hM1, hR1⟩ := st_q (T := (Cm.zero 1, (tk bs e 1).2.1, (0 : Int))) hT0 hZ0 hM0 rfl HLT.out hr hu)
    | (go_at_call 41; refine (HO.out).mono ?_; rintro x w1 ⟨rfl, hr1, hu1⟩; obtain ⟨kc, kf, hT0, hZ0, hM0, hR0⟩ := rr_start 1 HLT.out hr1 hu1; have hb1 := hr1.c1; have hne1 := HNE.out))
  exact bodyPost_ret_by (resR Tryz.results19 _ rfl hres) rfl ⟨rfl, hR5.upd hz2 (by have := HLT.out; omega), mod_upd' hM5 (Nat.le_refl _) hz2⟩
set_option maxHeartbeats 1500000 in
theorem refRead_2 (b : Nat) (bs : ByteArray) (e : Int) (w : World) (h : Rd w b bs e) (hk : Oc.val (tk bs e 1).1.data.toList = 2) (he : (tk bs e 1).2.2 = 0) :
    Calls Tryz.prog 19 #[.pointer (some ⟨b, 0, none⟩)] w fun x w' => x = .returned (readL (form 2) (Cm.zero 2, (tk bs e 1).2.1, 0)).1.agg ∧ Rd w' b (readL (form 2) (Cm.zero 2, (tk bs e 1).2.1, 0)).2.1 (readL (form 2) (Cm.zero 2, (tk bs e 1).2.1, 0)).2.2 ∧ Mod b w w' := by
  have hform : form 2 = [.q] := by decide
  rw [hform]
  simp only [readL, List.foldl_cons, List.foldl_nil]
  have HO := Lib.hid (num1 b bs e _ ((h.alloc (objR (Cm.zero 0))).alloc (objR (Cm.zero 0))))
  rw [hk, he] at HO
  have HLT := Lib.hid h.lt
  have HNE : Hid (True) := trivial
  clear h hform
  go_enter Tryz.func19, Tryz.ntmps19
  go_wp2_with (first
    | (go_at_call 47; refine (refText_rd b _ _ 32 (by decide) _ hR0).mono ?_; rintro x w2 ⟨rfl, hr, hu⟩; obtain ⟨⟨kc0, kf0⟩, hT1, hZ1, hM1, hR1⟩ := st_q (T := (Cm.zero 2, (tk bs e 1).2.1, (0 : Int))) hT0 hZ0 hM0 rfl HLT.out hr hu; have hl := run_loadR hT1; have hst := run_storeR hZ1 (Sg.q.read (Cm.zero 2, (tk bs e 1).2.1, (0 : Int))).1; obtain ⟨hz1, hz2⟩ := hZ1.stored (Sg.q.read (Cm.zero 2, (tk bs e 1).2.1, (0 : Int))).1; have hres := run_loadR hz1)
    | (go_at_call 41; refine (HO.out).mono ?_; rintro x w1 ⟨rfl, hr1, hu1⟩; obtain ⟨kc, kf, hT0, hZ0, hM0, hR0⟩ := rr_start 2 HLT.out hr1 hu1; have hb1 := hr1.c1; have hne1 := HNE.out))
  exact bodyPost_ret_by (resR Tryz.results19 _ rfl hres) rfl ⟨rfl, hR1.upd hz2 (by have := HLT.out; omega), mod_upd' hM1 (Nat.le_refl _) hz2⟩
set_option maxHeartbeats 1500000 in
theorem refRead_3 (b : Nat) (bs : ByteArray) (e : Int) (w : World) (h : Rd w b bs e) (hk : Oc.val (tk bs e 1).1.data.toList = 3) (he : (tk bs e 1).2.2 = 0) :
    Calls Tryz.prog 19 #[.pointer (some ⟨b, 0, none⟩)] w fun x w' => x = .returned (readL (form 3) (Cm.zero 3, (tk bs e 1).2.1, 0)).1.agg ∧ Rd w' b (readL (form 3) (Cm.zero 3, (tk bs e 1).2.1, 0)).2.1 (readL (form 3) (Cm.zero 3, (tk bs e 1).2.1, 0)).2.2 ∧ Mod b w w' := by
  have hform : form 3 = [.E, .K, .P, .Q] := by decide
  rw [hform]
  simp only [readL, List.foldl_cons, List.foldl_nil]
  have HO := Lib.hid (num1 b bs e _ ((h.alloc (objR (Cm.zero 0))).alloc (objR (Cm.zero 0))))
  rw [hk, he] at HO
  have HLT := Lib.hid h.lt
  have HNE : Hid (True) := trivial
  clear h hform
  go_enter Tryz.func19, Tryz.ntmps19
  go_wp2_with (first
    | (go_at_call 47; refine (refText_rd b _ _ 32 (by decide) _ hR3).mono ?_; rintro x w5 ⟨rfl, hr, hu⟩; obtain ⟨⟨kc3, kf3⟩, hT4, hZ4, hM4, hR4⟩ := st_Q (T := (Sg.P.read (Sg.K.read (Sg.E.read (Cm.zero 3, (tk bs e 1).2.1, (0 : Int)))))) hT3 hZ3 hM3 rfl HLT.out hr hu; have hl := run_loadR hT4; have hst := run_storeR hZ4 (Sg.Q.read (Sg.P.read (Sg.K.read (Sg.E.read (Cm.zero 3, (tk bs e 1).2.1, (0 : Int)))))).1; obtain ⟨hz1, hz2⟩ := hZ4.stored (Sg.Q.read (Sg.P.read (Sg.K.read (Sg.E.read (Cm.zero 3, (tk bs e 1).2.1, (0 : Int)))))).1; have hres := run_loadR hz1)
    | (go_at_call 47; refine (refText_rd b _ _ 512 (by decide) _ hR2).mono ?_; rintro x w4 ⟨rfl, hr, hu⟩; obtain ⟨⟨kc2, kf2⟩, hT3, hZ3, hM3, hR3⟩ := st_P (T := (Sg.K.read (Sg.E.read (Cm.zero 3, (tk bs e 1).2.1, (0 : Int))))) hT2 hZ2 hM2 rfl HLT.out hr hu)
    | (go_at_call 41; refine (num1 b _ _ _ hR1).mono ?_; rintro x w3 ⟨rfl, hr, hu⟩; have hv1 := vlt8 (Sg.E.read (Cm.zero 3, (tk bs e 1).2.1, (0 : Int))).2.1 (Sg.E.read (Cm.zero 3, (tk bs e 1).2.1, (0 : Int))).2.2; obtain ⟨⟨kc1, kf1⟩, hT2, hZ2, hM2, hR2⟩ := st_K (T := (Sg.E.read (Cm.zero 3, (tk bs e 1).2.1, (0 : Int)))) hT1 hZ1 hM1 rfl HLT.out hr hu)
    | (go_at_call 47; refine (refText_rd b _ _ 32 (by decide) _ hR0).mono ?_; rintro x w2 ⟨rfl, hr, hu⟩; obtain ⟨⟨kc0, kf0⟩, hT1, hZ1, hM1, hR1⟩ := st_E (T := (Cm.zero 3, (tk bs e 1).2.1, (0 : Int))) hT0 hZ0 hM0 rfl HLT.out hr hu)
    | (go_at_call 41; refine (HO.out).mono ?_; rintro x w1 ⟨rfl, hr1, hu1⟩; obtain ⟨kc, kf, hT0, hZ0, hM0, hR0⟩ := rr_start 3 HLT.out hr1 hu1; have hb1 := hr1.c1; have hne1 := HNE.out))
  exact bodyPost_ret_by (resR Tryz.results19 _ rfl hres) rfl ⟨rfl, hR4.upd hz2 (by have := HLT.out; omega), mod_upd' hM4 (Nat.le_refl _) hz2⟩
end Go.Proofs.YtoekggbbkcmknaaGreatDoor
/- The document's Read at some kinds. -/
namespace Go.Proofs.YtoekggbbkcmknaaGreatDoor
open Go.RowKit
attribute [local go_sem ↓] zeroC_eq newC_eq loadC_eq storeC_eq buildC_eq zeroR_eq newR_eq loadR_eq storeR_eq buildR_eq
attribute [local go_sem] run_zeroC run_newC run_buildC0 run_buildC1 run_neqC run_eqlC run_guardC run_zeroR run_newR run_buildR0 run_buildR1 run_neqR run_eqlR run_guardR
attribute [local go_sem ↓] bslC_eq bslR_eq
attribute [local go_sem] run_bslC run_bslR
set_option maxRecDepth 1000000
set_option maxHeartbeats 1500000 in
theorem refRead_4 (b : Nat) (bs : ByteArray) (e : Int) (w : World) (h : Rd w b bs e) (hk : Oc.val (tk bs e 1).1.data.toList = 4) (he : (tk bs e 1).2.2 = 0) :
    Calls Tryz.prog 19 #[.pointer (some ⟨b, 0, none⟩)] w fun x w' => x = .returned (readL (form 4) (Cm.zero 4, (tk bs e 1).2.1, 0)).1.agg ∧ Rd w' b (readL (form 4) (Cm.zero 4, (tk bs e 1).2.1, 0)).2.1 (readL (form 4) (Cm.zero 4, (tk bs e 1).2.1, 0)).2.2 ∧ Mod b w w' := by
  have hform : form 4 = [.E, .K, .P, .Q] := by decide
  rw [hform]
  simp only [readL, List.foldl_cons, List.foldl_nil]
  have HO := Lib.hid (num1 b bs e _ ((h.alloc (objR (Cm.zero 0))).alloc (objR (Cm.zero 0))))
  rw [hk, he] at HO
  have HLT := Lib.hid h.lt
  have HNE : Hid (True) := trivial
  clear h hform
  go_enter Tryz.func19, Tryz.ntmps19
  go_wp2_with (first
    | (go_at_call 47; refine (refText_rd b _ _ 32 (by decide) _ hR3).mono ?_; rintro x w5 ⟨rfl, hr, hu⟩; obtain ⟨⟨kc3, kf3⟩, hT4, hZ4, hM4, hR4⟩ := st_Q (T := (Sg.P.read (Sg.K.read (Sg.E.read (Cm.zero 4, (tk bs e 1).2.1, (0 : Int)))))) hT3 hZ3 hM3 rfl HLT.out hr hu; have hl := run_loadR hT4; have hst := run_storeR hZ4 (Sg.Q.read (Sg.P.read (Sg.K.read (Sg.E.read (Cm.zero 4, (tk bs e 1).2.1, (0 : Int)))))).1; obtain ⟨hz1, hz2⟩ := hZ4.stored (Sg.Q.read (Sg.P.read (Sg.K.read (Sg.E.read (Cm.zero 4, (tk bs e 1).2.1, (0 : Int)))))).1; have hres := run_loadR hz1)
    | (go_at_call 47; refine (refText_rd b _ _ 512 (by decide) _ hR2).mono ?_; rintro x w4 ⟨rfl, hr, hu⟩; obtain ⟨⟨kc2, kf2⟩, hT3, hZ3, hM3, hR3⟩ := st_P (T := (Sg.K.read (Sg.E.read (Cm.zero 4, (tk bs e 1).2.1, (0 : Int))))) hT2 hZ2 hM2 rfl HLT.out hr hu)
    | (go_at_call 41; refine (num1 b _ _ _ hR1).mono ?_; rintro x w3 ⟨rfl, hr, hu⟩; have hv1 := vlt8 (Sg.E.read (Cm.zero 4, (tk bs e 1).2.1, (0 : Int))).2.1 (Sg.E.read (Cm.zero 4, (tk bs e 1).2.1, (0 : Int))).2.2; obtain ⟨⟨kc1, kf1⟩, hT2, hZ2, hM2, hR2⟩ := st_K (T := (Sg.E.read (Cm.zero 4, (tk bs e 1).2.1, (0 : Int)))) hT1 hZ1 hM1 rfl HLT.out hr hu)
    | (go_at_call 47; refine (refText_rd b _ _ 32 (by decide) _ hR0).mono ?_; rintro x w2 ⟨rfl, hr, hu⟩; obtain ⟨⟨kc0, kf0⟩, hT1, hZ1, hM1, hR1⟩ := st_E (T := (Cm.zero 4, (tk bs e 1).2.1, (0 : Int))) hT0 hZ0 hM0 rfl HLT.out hr hu)
    | (go_at_call 41; refine (HO.out).mono ?_; rintro x w1 ⟨rfl, hr1, hu1⟩; obtain ⟨kc, kf, hT0, hZ0, hM0, hR0⟩ := rr_start 4 HLT.out hr1 hu1; have hb1 := hr1.c1; have hne1 := HNE.out))
  exact bodyPost_ret_by (resR Tryz.results19 _ rfl hres) rfl ⟨rfl, hR4.upd hz2 (by have := HLT.out; omega), mod_upd' hM4 (Nat.le_refl _) hz2⟩
set_option maxHeartbeats 1500000 in
theorem refRead_5 (b : Nat) (bs : ByteArray) (e : Int) (w : World) (h : Rd w b bs e) (hk : Oc.val (tk bs e 1).1.data.toList = 5) (he : (tk bs e 1).2.2 = 0) :
    Calls Tryz.prog 19 #[.pointer (some ⟨b, 0, none⟩)] w fun x w' => x = .returned (readL (form 5) (Cm.zero 5, (tk bs e 1).2.1, 0)).1.agg ∧ Rd w' b (readL (form 5) (Cm.zero 5, (tk bs e 1).2.1, 0)).2.1 (readL (form 5) (Cm.zero 5, (tk bs e 1).2.1, 0)).2.2 ∧ Mod b w w' := by
  have hform : form 5 = [.e, .k, .b, .t] := by decide
  rw [hform]
  simp only [readL, List.foldl_cons, List.foldl_nil]
  have HO := Lib.hid (num1 b bs e _ ((h.alloc (objR (Cm.zero 0))).alloc (objR (Cm.zero 0))))
  rw [hk, he] at HO
  have HLT := Lib.hid h.lt
  have HNE : Hid (True) := trivial
  clear h hform
  go_enter Tryz.func19, Tryz.ntmps19
  go_wp2_with (first
    | (go_at_call 41; refine (num8 b _ _ _ hR3).mono ?_; rintro x w5 ⟨rfl, hr, hu⟩; obtain ⟨⟨kc3, kf3⟩, hT4, hZ4, hM4, hR4⟩ := st_t (T := (Sg.b.read (Sg.k.read (Sg.e.read (Cm.zero 5, (tk bs e 1).2.1, (0 : Int)))))) hT3 hZ3 hM3 rfl HLT.out hr hu; have hl := run_loadR hT4; have hst := run_storeR hZ4 (Sg.t.read (Sg.b.read (Sg.k.read (Sg.e.read (Cm.zero 5, (tk bs e 1).2.1, (0 : Int)))))).1; obtain ⟨hz1, hz2⟩ := hZ4.stored (Sg.t.read (Sg.b.read (Sg.k.read (Sg.e.read (Cm.zero 5, (tk bs e 1).2.1, (0 : Int)))))).1; have hres := run_loadR hz1)
    | (go_at_call 47; refine (refText_rd b _ _ 32768 (by decide) _ hR2).mono ?_; rintro x w4 ⟨rfl, hr, hu⟩; obtain ⟨⟨kc2, kf2⟩, hT3, hZ3, hM3, hR3⟩ := st_b (T := (Sg.k.read (Sg.e.read (Cm.zero 5, (tk bs e 1).2.1, (0 : Int))))) hT2 hZ2 hM2 rfl HLT.out hr hu)
    | (go_at_call 47; refine (refText_rd b _ _ 512 (by decide) _ hR1).mono ?_; rintro x w3 ⟨rfl, hr, hu⟩; obtain ⟨⟨kc1, kf1⟩, hT2, hZ2, hM2, hR2⟩ := st_k (T := (Sg.e.read (Cm.zero 5, (tk bs e 1).2.1, (0 : Int)))) hT1 hZ1 hM1 rfl HLT.out hr hu)
    | (go_at_call 47; refine (refText_rd b _ _ 32 (by decide) _ hR0).mono ?_; rintro x w2 ⟨rfl, hr, hu⟩; obtain ⟨⟨kc0, kf0⟩, hT1, hZ1, hM1, hR1⟩ := st_e (T := (Cm.zero 5, (tk bs e 1).2.1, (0 : Int))) hT0 hZ0 hM0 rfl HLT.out hr hu)
    | (go_at_call 41; refine (HO.out).mono ?_; rintro x w1 ⟨rfl, hr1, hu1⟩; obtain ⟨kc, kf, hT0, hZ0, hM0, hR0⟩ := rr_start 5 HLT.out hr1 hu1; have hb1 := hr1.c1; have hne1 := HNE.out))
  exact bodyPost_ret_by (resR Tryz.results19 _ rfl hres) rfl ⟨rfl, hR4.upd hz2 (by have := HLT.out; omega), mod_upd' hM4 (Nat.le_refl _) hz2⟩
set_option maxHeartbeats 1500000 in
theorem refRead_10 (b : Nat) (bs : ByteArray) (e : Int) (w : World) (h : Rd w b bs e) (hk : Oc.val (tk bs e 1).1.data.toList = 10) (he : (tk bs e 1).2.2 = 0) :
    Calls Tryz.prog 19 #[.pointer (some ⟨b, 0, none⟩)] w fun x w' => x = .returned (readL (form 10) (Cm.zero 10, (tk bs e 1).2.1, 0)).1.agg ∧ Rd w' b (readL (form 10) (Cm.zero 10, (tk bs e 1).2.1, 0)).2.1 (readL (form 10) (Cm.zero 10, (tk bs e 1).2.1, 0)).2.2 ∧ Mod b w w' := by
  have hform : form 10 = [.q] := by decide
  rw [hform]
  simp only [readL, List.foldl_cons, List.foldl_nil]
  have HO := Lib.hid (num1 b bs e _ ((h.alloc (objR (Cm.zero 0))).alloc (objR (Cm.zero 0))))
  rw [hk, he] at HO
  have HLT := Lib.hid h.lt
  have HNE : Hid (True) := trivial
  clear h hform
  go_enter Tryz.func19, Tryz.ntmps19
  go_wp2_with (first
    | (go_at_call 47; refine (refText_rd b _ _ 32 (by decide) _ hR0).mono ?_; rintro x w2 ⟨rfl, hr, hu⟩; obtain ⟨⟨kc0, kf0⟩, hT1, hZ1, hM1, hR1⟩ := st_q (T := (Cm.zero 10, (tk bs e 1).2.1, (0 : Int))) hT0 hZ0 hM0 rfl HLT.out hr hu; have hl := run_loadR hT1; have hst := run_storeR hZ1 (Sg.q.read (Cm.zero 10, (tk bs e 1).2.1, (0 : Int))).1; obtain ⟨hz1, hz2⟩ := hZ1.stored (Sg.q.read (Cm.zero 10, (tk bs e 1).2.1, (0 : Int))).1; have hres := run_loadR hz1)
    | (go_at_call 41; refine (HO.out).mono ?_; rintro x w1 ⟨rfl, hr1, hu1⟩; obtain ⟨kc, kf, hT0, hZ0, hM0, hR0⟩ := rr_start 10 HLT.out hr1 hu1; have hb1 := hr1.c1; have hne1 := HNE.out))
  exact bodyPost_ret_by (resR Tryz.results19 _ rfl hres) rfl ⟨rfl, hR1.upd hz2 (by have := HLT.out; omega), mod_upd' hM1 (Nat.le_refl _) hz2⟩
end Go.Proofs.YtoekggbbkcmknaaGreatDoor
/- The document's Read at some kinds. -/
namespace Go.Proofs.YtoekggbbkcmknaaGreatDoor
open Go.RowKit
attribute [local go_sem ↓] zeroC_eq newC_eq loadC_eq storeC_eq buildC_eq zeroR_eq newR_eq loadR_eq storeR_eq buildR_eq
attribute [local go_sem] run_zeroC run_newC run_buildC0 run_buildC1 run_neqC run_eqlC run_guardC run_zeroR run_newR run_buildR0 run_buildR1 run_neqR run_eqlR run_guardR
attribute [local go_sem ↓] bslC_eq bslR_eq
attribute [local go_sem] run_bslC run_bslR
set_option maxRecDepth 1000000
set_option maxHeartbeats 1500000 in
theorem refRead_6 (b : Nat) (bs : ByteArray) (e : Int) (w : World) (h : Rd w b bs e) (hk : Oc.val (tk bs e 1).1.data.toList = 6) (he : (tk bs e 1).2.2 = 0) :
    Calls Tryz.prog 19 #[.pointer (some ⟨b, 0, none⟩)] w fun x w' => x = .returned (readL (form 6) (Cm.zero 6, (tk bs e 1).2.1, 0)).1.agg ∧ Rd w' b (readL (form 6) (Cm.zero 6, (tk bs e 1).2.1, 0)).2.1 (readL (form 6) (Cm.zero 6, (tk bs e 1).2.1, 0)).2.2 ∧ Mod b w w' := by
  have hform : form 6 = [.q, .n, .t] := by decide
  rw [hform]
  simp only [readL, List.foldl_cons, List.foldl_nil]
  have HO := Lib.hid (num1 b bs e _ ((h.alloc (objR (Cm.zero 0))).alloc (objR (Cm.zero 0))))
  rw [hk, he] at HO
  have HLT := Lib.hid h.lt
  have HNE : Hid (True) := trivial
  clear h hform
  go_enter Tryz.func19, Tryz.ntmps19
  go_wp2_with (first
    | (go_at_call 41; refine (num8 b _ _ _ hR2).mono ?_; rintro x w4 ⟨rfl, hr, hu⟩; obtain ⟨⟨kc2, kf2⟩, hT3, hZ3, hM3, hR3⟩ := st_t (T := (Sg.n.read (Sg.q.read (Cm.zero 6, (tk bs e 1).2.1, (0 : Int))))) hT2 hZ2 hM2 rfl HLT.out hr hu; have hl := run_loadR hT3; have hst := run_storeR hZ3 (Sg.t.read (Sg.n.read (Sg.q.read (Cm.zero 6, (tk bs e 1).2.1, (0 : Int))))).1; obtain ⟨hz1, hz2⟩ := hZ3.stored (Sg.t.read (Sg.n.read (Sg.q.read (Cm.zero 6, (tk bs e 1).2.1, (0 : Int))))).1; have hres := run_loadR hz1)
    | (go_at_call 41; refine (num8 b _ _ _ hR1).mono ?_; rintro x w3 ⟨rfl, hr, hu⟩; obtain ⟨⟨kc1, kf1⟩, hT2, hZ2, hM2, hR2⟩ := st_n (T := (Sg.q.read (Cm.zero 6, (tk bs e 1).2.1, (0 : Int)))) hT1 hZ1 hM1 rfl HLT.out hr hu)
    | (go_at_call 47; refine (refText_rd b _ _ 32 (by decide) _ hR0).mono ?_; rintro x w2 ⟨rfl, hr, hu⟩; obtain ⟨⟨kc0, kf0⟩, hT1, hZ1, hM1, hR1⟩ := st_q (T := (Cm.zero 6, (tk bs e 1).2.1, (0 : Int))) hT0 hZ0 hM0 rfl HLT.out hr hu)
    | (go_at_call 41; refine (HO.out).mono ?_; rintro x w1 ⟨rfl, hr1, hu1⟩; obtain ⟨kc, kf, hT0, hZ0, hM0, hR0⟩ := rr_start 6 HLT.out hr1 hu1; have hb1 := hr1.c1; have hne1 := HNE.out))
  exact bodyPost_ret_by (resR Tryz.results19 _ rfl hres) rfl ⟨rfl, hR3.upd hz2 (by have := HLT.out; omega), mod_upd' hM3 (Nat.le_refl _) hz2⟩
set_option maxHeartbeats 1500000 in
theorem refRead_7 (b : Nat) (bs : ByteArray) (e : Int) (w : World) (h : Rd w b bs e) (hk : Oc.val (tk bs e 1).1.data.toList = 7) (he : (tk bs e 1).2.2 = 0) :
    Calls Tryz.prog 19 #[.pointer (some ⟨b, 0, none⟩)] w fun x w' => x = .returned (readL (form 7) (Cm.zero 7, (tk bs e 1).2.1, 0)).1.agg ∧ Rd w' b (readL (form 7) (Cm.zero 7, (tk bs e 1).2.1, 0)).2.1 (readL (form 7) (Cm.zero 7, (tk bs e 1).2.1, 0)).2.2 ∧ Mod b w w' := by
  have hform : form 7 = [.q, .i, .o] := by decide
  rw [hform]
  simp only [readL, List.foldl_cons, List.foldl_nil]
  have HO := Lib.hid (num1 b bs e _ ((h.alloc (objR (Cm.zero 0))).alloc (objR (Cm.zero 0))))
  rw [hk, he] at HO
  have HLT := Lib.hid h.lt
  have HNE : Hid (True) := trivial
  clear h hform
  go_enter Tryz.func19, Tryz.ntmps19
  go_wp2_with (first
    | (go_at_call 41; refine (num8 b _ _ _ hR2).mono ?_; rintro x w4 ⟨rfl, hr, hu⟩; obtain ⟨⟨kc2, kf2⟩, hT3, hZ3, hM3, hR3⟩ := st_o (T := (Sg.i.read (Sg.q.read (Cm.zero 7, (tk bs e 1).2.1, (0 : Int))))) hT2 hZ2 hM2 rfl HLT.out hr hu; have hl := run_loadR hT3; have hst := run_storeR hZ3 (Sg.o.read (Sg.i.read (Sg.q.read (Cm.zero 7, (tk bs e 1).2.1, (0 : Int))))).1; obtain ⟨hz1, hz2⟩ := hZ3.stored (Sg.o.read (Sg.i.read (Sg.q.read (Cm.zero 7, (tk bs e 1).2.1, (0 : Int))))).1; have hres := run_loadR hz1)
    | (go_at_call 41; refine (num8 b _ _ _ hR1).mono ?_; rintro x w3 ⟨rfl, hr, hu⟩; obtain ⟨⟨kc1, kf1⟩, hT2, hZ2, hM2, hR2⟩ := st_i (T := (Sg.q.read (Cm.zero 7, (tk bs e 1).2.1, (0 : Int)))) hT1 hZ1 hM1 rfl HLT.out hr hu)
    | (go_at_call 47; refine (refText_rd b _ _ 32 (by decide) _ hR0).mono ?_; rintro x w2 ⟨rfl, hr, hu⟩; obtain ⟨⟨kc0, kf0⟩, hT1, hZ1, hM1, hR1⟩ := st_q (T := (Cm.zero 7, (tk bs e 1).2.1, (0 : Int))) hT0 hZ0 hM0 rfl HLT.out hr hu)
    | (go_at_call 41; refine (HO.out).mono ?_; rintro x w1 ⟨rfl, hr1, hu1⟩; obtain ⟨kc, kf, hT0, hZ0, hM0, hR0⟩ := rr_start 7 HLT.out hr1 hu1; have hb1 := hr1.c1; have hne1 := HNE.out))
  exact bodyPost_ret_by (resR Tryz.results19 _ rfl hres) rfl ⟨rfl, hR3.upd hz2 (by have := HLT.out; omega), mod_upd' hM3 (Nat.le_refl _) hz2⟩
set_option maxHeartbeats 1500000 in
theorem refRead_11 (b : Nat) (bs : ByteArray) (e : Int) (w : World) (h : Rd w b bs e) (hk : Oc.val (tk bs e 1).1.data.toList = 11) (he : (tk bs e 1).2.2 = 0) :
    Calls Tryz.prog 19 #[.pointer (some ⟨b, 0, none⟩)] w fun x w' => x = .returned (readL (form 11) (Cm.zero 11, (tk bs e 1).2.1, 0)).1.agg ∧ Rd w' b (readL (form 11) (Cm.zero 11, (tk bs e 1).2.1, 0)).2.1 (readL (form 11) (Cm.zero 11, (tk bs e 1).2.1, 0)).2.2 ∧ Mod b w w' := by
  have hform : form 11 = [.t] := by decide
  rw [hform]
  simp only [readL, List.foldl_cons, List.foldl_nil]
  have HO := Lib.hid (num1 b bs e _ ((h.alloc (objR (Cm.zero 0))).alloc (objR (Cm.zero 0))))
  rw [hk, he] at HO
  have HLT := Lib.hid h.lt
  have HNE : Hid (True) := trivial
  clear h hform
  go_enter Tryz.func19, Tryz.ntmps19
  go_wp2_with (first
    | (go_at_call 41; refine (num8 b _ _ _ hR0).mono ?_; rintro x w2 ⟨rfl, hr, hu⟩; obtain ⟨⟨kc0, kf0⟩, hT1, hZ1, hM1, hR1⟩ := st_t (T := (Cm.zero 11, (tk bs e 1).2.1, (0 : Int))) hT0 hZ0 hM0 rfl HLT.out hr hu; have hl := run_loadR hT1; have hst := run_storeR hZ1 (Sg.t.read (Cm.zero 11, (tk bs e 1).2.1, (0 : Int))).1; obtain ⟨hz1, hz2⟩ := hZ1.stored (Sg.t.read (Cm.zero 11, (tk bs e 1).2.1, (0 : Int))).1; have hres := run_loadR hz1)
    | (go_at_call 41; refine (HO.out).mono ?_; rintro x w1 ⟨rfl, hr1, hu1⟩; obtain ⟨kc, kf, hT0, hZ0, hM0, hR0⟩ := rr_start 11 HLT.out hr1 hu1; have hb1 := hr1.c1; have hne1 := HNE.out))
  exact bodyPost_ret_by (resR Tryz.results19 _ rfl hres) rfl ⟨rfl, hR1.upd hz2 (by have := HLT.out; omega), mod_upd' hM1 (Nat.le_refl _) hz2⟩
end Go.Proofs.YtoekggbbkcmknaaGreatDoor
/- The document's Read at some kinds. -/
namespace Go.Proofs.YtoekggbbkcmknaaGreatDoor
open Go.RowKit
attribute [local go_sem ↓] zeroC_eq newC_eq loadC_eq storeC_eq buildC_eq zeroR_eq newR_eq loadR_eq storeR_eq buildR_eq
attribute [local go_sem] run_zeroC run_newC run_buildC0 run_buildC1 run_neqC run_eqlC run_guardC run_zeroR run_newR run_buildR0 run_buildR1 run_neqR run_eqlR run_guardR
attribute [local go_sem ↓] bslC_eq bslR_eq
attribute [local go_sem] run_bslC run_bslR
set_option maxRecDepth 1000000
set_option maxHeartbeats 1500000 in
theorem refRead_9 (b : Nat) (bs : ByteArray) (e : Int) (w : World) (h : Rd w b bs e) (hk : Oc.val (tk bs e 1).1.data.toList = 9) (he : (tk bs e 1).2.2 = 0) :
    Calls Tryz.prog 19 #[.pointer (some ⟨b, 0, none⟩)] w fun x w' => x = .returned (readL (form 9) (Cm.zero 9, (tk bs e 1).2.1, 0)).1.agg ∧ Rd w' b (readL (form 9) (Cm.zero 9, (tk bs e 1).2.1, 0)).2.1 (readL (form 9) (Cm.zero 9, (tk bs e 1).2.1, 0)).2.2 ∧ Mod b w w' := by
  have hform : form 9 = [.q, .i, .o, .t] := by decide
  rw [hform]
  simp only [readL, List.foldl_cons, List.foldl_nil]
  have HO := Lib.hid (num1 b bs e _ ((h.alloc (objR (Cm.zero 0))).alloc (objR (Cm.zero 0))))
  rw [hk, he] at HO
  have HLT := Lib.hid h.lt
  have HNE : Hid (True) := trivial
  clear h hform
  go_enter Tryz.func19, Tryz.ntmps19
  go_wp2_with (first
    | (go_at_call 41; refine (num8 b _ _ _ hR3).mono ?_; rintro x w5 ⟨rfl, hr, hu⟩; obtain ⟨⟨kc3, kf3⟩, hT4, hZ4, hM4, hR4⟩ := st_t (T := (Sg.o.read (Sg.i.read (Sg.q.read (Cm.zero 9, (tk bs e 1).2.1, (0 : Int)))))) hT3 hZ3 hM3 rfl HLT.out hr hu; have hl := run_loadR hT4; have hst := run_storeR hZ4 (Sg.t.read (Sg.o.read (Sg.i.read (Sg.q.read (Cm.zero 9, (tk bs e 1).2.1, (0 : Int)))))).1; obtain ⟨hz1, hz2⟩ := hZ4.stored (Sg.t.read (Sg.o.read (Sg.i.read (Sg.q.read (Cm.zero 9, (tk bs e 1).2.1, (0 : Int)))))).1; have hres := run_loadR hz1)
    | (go_at_call 41; refine (num8 b _ _ _ hR2).mono ?_; rintro x w4 ⟨rfl, hr, hu⟩; obtain ⟨⟨kc2, kf2⟩, hT3, hZ3, hM3, hR3⟩ := st_o (T := (Sg.i.read (Sg.q.read (Cm.zero 9, (tk bs e 1).2.1, (0 : Int))))) hT2 hZ2 hM2 rfl HLT.out hr hu)
    | (go_at_call 41; refine (num8 b _ _ _ hR1).mono ?_; rintro x w3 ⟨rfl, hr, hu⟩; obtain ⟨⟨kc1, kf1⟩, hT2, hZ2, hM2, hR2⟩ := st_i (T := (Sg.q.read (Cm.zero 9, (tk bs e 1).2.1, (0 : Int)))) hT1 hZ1 hM1 rfl HLT.out hr hu)
    | (go_at_call 47; refine (refText_rd b _ _ 32 (by decide) _ hR0).mono ?_; rintro x w2 ⟨rfl, hr, hu⟩; obtain ⟨⟨kc0, kf0⟩, hT1, hZ1, hM1, hR1⟩ := st_q (T := (Cm.zero 9, (tk bs e 1).2.1, (0 : Int))) hT0 hZ0 hM0 rfl HLT.out hr hu)
    | (go_at_call 41; refine (HO.out).mono ?_; rintro x w1 ⟨rfl, hr1, hu1⟩; obtain ⟨kc, kf, hT0, hZ0, hM0, hR0⟩ := rr_start 9 HLT.out hr1 hu1; have hb1 := hr1.c1; have hne1 := HNE.out))
  exact bodyPost_ret_by (resR Tryz.results19 _ rfl hres) rfl ⟨rfl, hR4.upd hz2 (by have := HLT.out; omega), mod_upd' hM4 (Nat.le_refl _) hz2⟩
end Go.Proofs.YtoekggbbkcmknaaGreatDoor
/- The document's Read at some kinds. -/
namespace Go.Proofs.YtoekggbbkcmknaaGreatDoor
open Go.RowKit
theorem st_xv {T : Cm × ByteArray × Int} {v : Nat} (hv : v = Oc.val (tk T.2.1 T.2.2 1).1.data.toList) {w0 W w1 : World} {b g : Nat} (hT : BxC W g T.1) (hZ : BxC W w0.heap.size (Cm.zero 0)) (hM : Mod b w0 W) (hg : g = w0.heap.size + 1) (hb : b < w0.heap.size) (hr : Rd w1 b (tk T.2.1 T.2.2 1).2.1 (tk T.2.1 T.2.2 1).2.2) (hu : Upd b W w1) :
    (w1.cell? ⟨g, 17, none⟩ = some (.bool T.1.dead) ∧ w1.frozen? ⟨g, 17, none⟩ = false) ∧ BxC (w1.setCell ⟨g, 17, none⟩ (.bool (((v : Nat) : Int) == 1))) g (Sg.x.read T).1 ∧ BxC (w1.setCell ⟨g, 17, none⟩ (.bool (((v : Nat) : Int) == 1))) w0.heap.size (Cm.zero 0) ∧ Mod b w0 (w1.setCell ⟨g, 17, none⟩ (.bool (((v : Nat) : Int) == 1))) ∧ Rd (w1.setCell ⟨g, 17, none⟩ (.bool (((v : Nat) : Int) == 1))) b (tk T.2.1 T.2.2 1).2.1 (tk T.2.1 T.2.2 1).2.2 := by
  subst hv
  have hd : (((Oc.val (tk T.2.1 T.2.2 1).1.data.toList : Nat) : Int) == 1) = decide (Oc.val (tk T.2.1 T.2.2 1).1.data.toList = 1) := by
    generalize Oc.val (tk T.2.1 T.2.2 1).1.data.toList = v
    by_cases h2 : v = 1
    · rw [decide_eq_true h2, h2]; rfl
    · rw [decide_eq_false h2, beq_eq_false_iff_ne]; omega
  rw [hd]
  exact st_x hT hZ hM hg hb hr hu
theorem num1v {s : ByteArray} {e : Int} {v : Nat} (hv : v = Oc.val (tk s e 1).1.data.toList) (b : Nat) (s' : ByteArray) (e' : Int) (w : World) (h : Rd w b s e) :
    Calls Tryz.prog 41 #[.pointer (some ⟨b, 0, none⟩), .int .i64 1] w fun x w' => x = .returned (.int .u64 (v : Nat)) ∧ Rd w' b (tk s e 1).2.1 (tk s e 1).2.2 ∧ Upd b w w' := by
  subst hv
  exact num1 b s e w h
theorem st_xd {T : Cm × ByteArray × Int} {dv : Bool} (hv : dv = decide (Oc.val (tk T.2.1 T.2.2 1).1.data.toList = 1)) {w0 W w1 : World} {b g : Nat} (hT : BxC W g T.1) (hZ : BxC W w0.heap.size (Cm.zero 0)) (hM : Mod b w0 W) (hg : g = w0.heap.size + 1) (hb : b < w0.heap.size) (hr : Rd w1 b (tk T.2.1 T.2.2 1).2.1 (tk T.2.1 T.2.2 1).2.2) (hu : Upd b W w1) :
    (w1.cell? ⟨g, 17, none⟩ = some (.bool T.1.dead) ∧ w1.frozen? ⟨g, 17, none⟩ = false) ∧ BxC (w1.setCell ⟨g, 17, none⟩ (.bool dv)) g (Sg.x.read T).1 ∧ BxC (w1.setCell ⟨g, 17, none⟩ (.bool dv)) w0.heap.size (Cm.zero 0) ∧ Mod b w0 (w1.setCell ⟨g, 17, none⟩ (.bool dv)) ∧ Rd (w1.setCell ⟨g, 17, none⟩ (.bool dv)) b (tk T.2.1 T.2.2 1).2.1 (tk T.2.1 T.2.2 1).2.2 := by
  subst hv
  exact st_x hT hZ hM hg hb hr hu
theorem num1n {s : ByteArray} {e : Int} {n : Int} (hv : n = ((Oc.val (tk s e 1).1.data.toList : Nat) : Int)) (b : Nat) (w : World) (h : Rd w b s e) :
    Calls Tryz.prog 41 #[.pointer (some ⟨b, 0, none⟩), .int .i64 1] w fun x w' => x = .returned (.int .u64 n) ∧ Rd w' b (tk s e 1).2.1 (tk s e 1).2.2 ∧ Upd b w w' := by
  subst hv
  exact num1 b s e w h
attribute [local go_sem ↓] zeroC_eq newC_eq loadC_eq storeC_eq buildC_eq zeroR_eq newR_eq loadR_eq storeR_eq buildR_eq
attribute [local go_sem] run_zeroC run_newC run_buildC0 run_buildC1 run_neqC run_eqlC run_guardC run_zeroR run_newR run_buildR0 run_buildR1 run_neqR run_eqlR run_guardR
attribute [local go_sem ↓] bslC_eq bslR_eq
attribute [local go_sem] run_bslC run_bslR
set_option maxRecDepth 1000000
set_option maxHeartbeats 500000 in
theorem refRead_8 (b : Nat) (bs : ByteArray) (e : Int) (w : World) (h : Rd w b bs e) (hk : Oc.val (tk bs e 1).1.data.toList = 8) (he : (tk bs e 1).2.2 = 0) :
    Calls Tryz.prog 19 #[.pointer (some ⟨b, 0, none⟩)] w fun x w' => x = .returned (readL (form 8) (Cm.zero 8, (tk bs e 1).2.1, 0)).1.agg ∧ Rd w' b (readL (form 8) (Cm.zero 8, (tk bs e 1).2.1, 0)).2.1 (readL (form 8) (Cm.zero 8, (tk bs e 1).2.1, 0)).2.2 ∧ Mod b w w' := by
  have hform : form 8 = [.q, .i, .o, .x] := by decide
  rw [hform]
  simp only [readL, List.foldl_cons, List.foldl_nil]
  have HO := Lib.hid (num1 b bs e _ ((h.alloc (objR (Cm.zero 0))).alloc (objR (Cm.zero 0))))
  rw [hk, he] at HO
  have HLT := Lib.hid h.lt
  have HNE : Hid (True) := trivial
  clear h hform
  have hx1 : (Sg.x.read (Sg.o.read (Sg.i.read (Sg.q.read (Cm.zero 8, (tk bs e 1).2.1, (0 : Int)))))).2.1 = (tk (Sg.o.read (Sg.i.read (Sg.q.read (Cm.zero 8, (tk bs e 1).2.1, (0 : Int))))).2.1 (Sg.o.read (Sg.i.read (Sg.q.read (Cm.zero 8, (tk bs e 1).2.1, (0 : Int))))).2.2 1).2.1 := rfl
  have hx2 : (Sg.x.read (Sg.o.read (Sg.i.read (Sg.q.read (Cm.zero 8, (tk bs e 1).2.1, (0 : Int)))))).2.2 = (if 1 < Oc.val (tk (Sg.o.read (Sg.i.read (Sg.q.read (Cm.zero 8, (tk bs e 1).2.1, (0 : Int))))).2.1 (Sg.o.read (Sg.i.read (Sg.q.read (Cm.zero 8, (tk bs e 1).2.1, (0 : Int))))).2.2 1).1.data.toList then (if (tk (Sg.o.read (Sg.i.read (Sg.q.read (Cm.zero 8, (tk bs e 1).2.1, (0 : Int))))).2.1 (Sg.o.read (Sg.i.read (Sg.q.read (Cm.zero 8, (tk bs e 1).2.1, (0 : Int))))).2.2 1).2.2 = 0 then 4 else (tk (Sg.o.read (Sg.i.read (Sg.q.read (Cm.zero 8, (tk bs e 1).2.1, (0 : Int))))).2.1 (Sg.o.read (Sg.i.read (Sg.q.read (Cm.zero 8, (tk bs e 1).2.1, (0 : Int))))).2.2 1).2.2) else (tk (Sg.o.read (Sg.i.read (Sg.q.read (Cm.zero 8, (tk bs e 1).2.1, (0 : Int))))).2.1 (Sg.o.read (Sg.i.read (Sg.q.read (Cm.zero 8, (tk bs e 1).2.1, (0 : Int))))).2.2 1).2.2) := rfl
  rw [hx1, hx2]
  clear hx1 hx2
  have hlt := vlt8 (Sg.o.read (Sg.i.read (Sg.q.read (Cm.zero 8, (tk bs e 1).2.1, (0 : Int))))).2.1 (Sg.o.read (Sg.i.read (Sg.q.read (Cm.zero 8, (tk bs e 1).2.1, (0 : Int))))).2.2
  obtain ⟨v, hv⟩ : ∃ v : Nat, v = Oc.val (tk (Sg.o.read (Sg.i.read (Sg.q.read (Cm.zero 8, (tk bs e 1).2.1, (0 : Int))))).2.1 (Sg.o.read (Sg.i.read (Sg.q.read (Cm.zero 8, (tk bs e 1).2.1, (0 : Int))))).2.2 1).1.data.toList := ⟨_, rfl⟩
  rw [← hv] at hlt
  rw [← hv]
  have HV := Lib.hid hv
  have HW := Lib.hid hlt
  clear hv hlt
  by_cases h1 : 1 < v
  · rw [if_pos h1]
    obtain ⟨ee, hee⟩ : ∃ ee : Int, ee = (if (tk (Sg.o.read (Sg.i.read (Sg.q.read (Cm.zero 8, (tk bs e 1).2.1, (0 : Int))))).2.1 (Sg.o.read (Sg.i.read (Sg.q.read (Cm.zero 8, (tk bs e 1).2.1, (0 : Int))))).2.2 1).2.2 = 0 then 4 else (tk (Sg.o.read (Sg.i.read (Sg.q.read (Cm.zero 8, (tk bs e 1).2.1, (0 : Int))))).2.1 (Sg.o.read (Sg.i.read (Sg.q.read (Cm.zero 8, (tk bs e 1).2.1, (0 : Int))))).2.2 1).2.2) := ⟨_, rfl⟩
    obtain ⟨rs, hrs⟩ : ∃ rs : ByteArray, rs = (tk (Sg.o.read (Sg.i.read (Sg.q.read (Cm.zero 8, (tk bs e 1).2.1, (0 : Int))))).2.1 (Sg.o.read (Sg.i.read (Sg.q.read (Cm.zero 8, (tk bs e 1).2.1, (0 : Int))))).2.2 1).2.1 := ⟨_, rfl⟩
    rw [← hee, ← hrs]
    have HE := Lib.hid hee
    have HS := Lib.hid hrs
    clear hee hrs
    have HG : Hid ((1 : Int) < ((v : Nat) : Int)) := Lib.hid (by omega)
    clear h1
    go_enter Tryz.func19, Tryz.ntmps19
    go_wp2_with (first
      | (go_at_call 42; refine (refFail_any b _ _ 4 _ hR4).mono ?_; rintro x w9 ⟨rfl, hr9, hu9⟩; have hT9 := hT4.upd hu9 (by have := HLT.out; omega); have hZ9 := hZ4.upd hu9 (by have := HLT.out; omega); have hM9 := hM4.upd hu9; have hl := run_loadR hT9; have hst := run_storeR hZ9 (Sg.x.read (Sg.o.read (Sg.i.read (Sg.q.read (Cm.zero 8, (tk bs e 1).2.1, (0 : Int)))))).1; obtain ⟨hz1, hz2⟩ := hZ9.stored (Sg.x.read (Sg.o.read (Sg.i.read (Sg.q.read (Cm.zero 8, (tk bs e 1).2.1, (0 : Int)))))).1; have hres := run_loadR hz1)
      | (go_at_call 41; refine (num1v HV.out b (Sg.o.read (Sg.i.read (Sg.q.read (Cm.zero 8, (tk bs e 1).2.1, (0 : Int))))).2.1 (Sg.o.read (Sg.i.read (Sg.q.read (Cm.zero 8, (tk bs e 1).2.1, (0 : Int))))).2.2 _ hR3).mono ?_; rintro x w5 ⟨rfl, hr, hu⟩; have hg := HG.out; have hlt := HW.out; obtain ⟨⟨kc3, kf3⟩, hT4, hZ4, hM4, hR4⟩ := st_xv (T := (Sg.o.read (Sg.i.read (Sg.q.read (Cm.zero 8, (tk bs e 1).2.1, (0 : Int)))))) HV.out hT3 hZ3 hM3 rfl HLT.out hr hu)
      | (go_at_call 41; refine (num8 b _ _ _ hR2).mono ?_; rintro x w4 ⟨rfl, hr, hu⟩; obtain ⟨⟨kc2, kf2⟩, hT3, hZ3, hM3, hR3⟩ := st_o (T := (Sg.i.read (Sg.q.read (Cm.zero 8, (tk bs e 1).2.1, (0 : Int))))) hT2 hZ2 hM2 rfl HLT.out hr hu)
      | (go_at_call 41; refine (num8 b _ _ _ hR1).mono ?_; rintro x w3 ⟨rfl, hr, hu⟩; obtain ⟨⟨kc1, kf1⟩, hT2, hZ2, hM2, hR2⟩ := st_i (T := (Sg.q.read (Cm.zero 8, (tk bs e 1).2.1, (0 : Int)))) hT1 hZ1 hM1 rfl HLT.out hr hu)
      | (go_at_call 47; refine (refText_rd b _ _ 32 (by decide) _ hR0).mono ?_; rintro x w2 ⟨rfl, hr, hu⟩; obtain ⟨⟨kc0, kf0⟩, hT1, hZ1, hM1, hR1⟩ := st_q (T := (Cm.zero 8, (tk bs e 1).2.1, (0 : Int))) hT0 hZ0 hM0 rfl HLT.out hr hu)
      | (go_at_call 41; refine (HO.out).mono ?_; rintro x w1 ⟨rfl, hr1, hu1⟩; obtain ⟨kc, kf, hT0, hZ0, hM0, hR0⟩ := rr_start 8 HLT.out hr1 hu1; have hb1 := hr1.c1; have hne1 := HNE.out))
    exact bodyPost_ret_by (resR Tryz.results19 _ rfl hres) rfl ⟨rfl, (by rw [HE.out, HS.out]; exact hr9.upd hz2 (by have := HLT.out; omega)), mod_upd' hM9 (Nat.le_refl _) hz2⟩
  · rw [if_neg h1]
    obtain ⟨ee, hee⟩ : ∃ ee : Int, ee = (tk (Sg.o.read (Sg.i.read (Sg.q.read (Cm.zero 8, (tk bs e 1).2.1, (0 : Int))))).2.1 (Sg.o.read (Sg.i.read (Sg.q.read (Cm.zero 8, (tk bs e 1).2.1, (0 : Int))))).2.2 1).2.2 := ⟨_, rfl⟩
    obtain ⟨rs, hrs⟩ : ∃ rs : ByteArray, rs = (tk (Sg.o.read (Sg.i.read (Sg.q.read (Cm.zero 8, (tk bs e 1).2.1, (0 : Int))))).2.1 (Sg.o.read (Sg.i.read (Sg.q.read (Cm.zero 8, (tk bs e 1).2.1, (0 : Int))))).2.2 1).2.1 := ⟨_, rfl⟩
    rw [← hee, ← hrs]
    have HE := Lib.hid hee
    have HS := Lib.hid hrs
    clear hee hrs
    have h01 : v = 0 ∨ v = 1 := by omega
    clear h1
    rcases h01 with h0 | h0
    · have HN : Hid ((0 : Int) = ((Oc.val (tk (Sg.o.read (Sg.i.read (Sg.q.read (Cm.zero 8, (tk bs e 1).2.1, (0 : Int))))).2.1 (Sg.o.read (Sg.i.read (Sg.q.read (Cm.zero 8, (tk bs e 1).2.1, (0 : Int))))).2.2 1).1.data.toList : Nat) : Int)) := Lib.hid (by rw [← HV.out, h0]; rfl)
      have HD : Hid (false = decide (Oc.val (tk (Sg.o.read (Sg.i.read (Sg.q.read (Cm.zero 8, (tk bs e 1).2.1, (0 : Int))))).2.1 (Sg.o.read (Sg.i.read (Sg.q.read (Cm.zero 8, (tk bs e 1).2.1, (0 : Int))))).2.2 1).1.data.toList = 1)) := Lib.hid (by rw [← HV.out, h0]; rfl)
      clear HV HW
      subst h0
      go_enter Tryz.func19, Tryz.ntmps19
      go_wp2_with (first
        | (go_at_call 41; refine (num1n HN.out b _ hR3).mono ?_; rintro x w5 ⟨rfl, hr, hu⟩; obtain ⟨⟨kc3, kf3⟩, hT4, hZ4, hM4, hR4⟩ := st_xd (T := (Sg.o.read (Sg.i.read (Sg.q.read (Cm.zero 8, (tk bs e 1).2.1, (0 : Int)))))) HD.out hT3 hZ3 hM3 rfl HLT.out hr hu; have hl := run_loadR hT4; have hst := run_storeR hZ4 (Sg.x.read (Sg.o.read (Sg.i.read (Sg.q.read (Cm.zero 8, (tk bs e 1).2.1, (0 : Int)))))).1; obtain ⟨hz1, hz2⟩ := hZ4.stored (Sg.x.read (Sg.o.read (Sg.i.read (Sg.q.read (Cm.zero 8, (tk bs e 1).2.1, (0 : Int)))))).1; have hres := run_loadR hz1)
        | (go_at_call 41; refine (num8 b _ _ _ hR2).mono ?_; rintro x w4 ⟨rfl, hr, hu⟩; obtain ⟨⟨kc2, kf2⟩, hT3, hZ3, hM3, hR3⟩ := st_o (T := (Sg.i.read (Sg.q.read (Cm.zero 8, (tk bs e 1).2.1, (0 : Int))))) hT2 hZ2 hM2 rfl HLT.out hr hu)
        | (go_at_call 41; refine (num8 b _ _ _ hR1).mono ?_; rintro x w3 ⟨rfl, hr, hu⟩; obtain ⟨⟨kc1, kf1⟩, hT2, hZ2, hM2, hR2⟩ := st_i (T := (Sg.q.read (Cm.zero 8, (tk bs e 1).2.1, (0 : Int)))) hT1 hZ1 hM1 rfl HLT.out hr hu)
        | (go_at_call 47; refine (refText_rd b _ _ 32 (by decide) _ hR0).mono ?_; rintro x w2 ⟨rfl, hr, hu⟩; obtain ⟨⟨kc0, kf0⟩, hT1, hZ1, hM1, hR1⟩ := st_q (T := (Cm.zero 8, (tk bs e 1).2.1, (0 : Int))) hT0 hZ0 hM0 rfl HLT.out hr hu)
        | (go_at_call 41; refine (HO.out).mono ?_; rintro x w1 ⟨rfl, hr1, hu1⟩; obtain ⟨kc, kf, hT0, hZ0, hM0, hR0⟩ := rr_start 8 HLT.out hr1 hu1; have hb1 := hr1.c1; have hne1 := HNE.out))
      exact bodyPost_ret_by (resR Tryz.results19 _ rfl hres) rfl ⟨rfl, (by rw [HE.out, HS.out]; exact hR4.upd hz2 (by have := HLT.out; omega)), mod_upd' hM4 (Nat.le_refl _) hz2⟩
    · have HN : Hid ((1 : Int) = ((Oc.val (tk (Sg.o.read (Sg.i.read (Sg.q.read (Cm.zero 8, (tk bs e 1).2.1, (0 : Int))))).2.1 (Sg.o.read (Sg.i.read (Sg.q.read (Cm.zero 8, (tk bs e 1).2.1, (0 : Int))))).2.2 1).1.data.toList : Nat) : Int)) := Lib.hid (by rw [← HV.out, h0]; rfl)
      have HD : Hid (true = decide (Oc.val (tk (Sg.o.read (Sg.i.read (Sg.q.read (Cm.zero 8, (tk bs e 1).2.1, (0 : Int))))).2.1 (Sg.o.read (Sg.i.read (Sg.q.read (Cm.zero 8, (tk bs e 1).2.1, (0 : Int))))).2.2 1).1.data.toList = 1)) := Lib.hid (by rw [← HV.out, h0]; rfl)
      clear HV HW
      subst h0
      go_enter Tryz.func19, Tryz.ntmps19
      go_wp2_with (first
        | (go_at_call 41; refine (num1n HN.out b _ hR3).mono ?_; rintro x w5 ⟨rfl, hr, hu⟩; obtain ⟨⟨kc3, kf3⟩, hT4, hZ4, hM4, hR4⟩ := st_xd (T := (Sg.o.read (Sg.i.read (Sg.q.read (Cm.zero 8, (tk bs e 1).2.1, (0 : Int)))))) HD.out hT3 hZ3 hM3 rfl HLT.out hr hu; have hl := run_loadR hT4; have hst := run_storeR hZ4 (Sg.x.read (Sg.o.read (Sg.i.read (Sg.q.read (Cm.zero 8, (tk bs e 1).2.1, (0 : Int)))))).1; obtain ⟨hz1, hz2⟩ := hZ4.stored (Sg.x.read (Sg.o.read (Sg.i.read (Sg.q.read (Cm.zero 8, (tk bs e 1).2.1, (0 : Int)))))).1; have hres := run_loadR hz1)
        | (go_at_call 41; refine (num8 b _ _ _ hR2).mono ?_; rintro x w4 ⟨rfl, hr, hu⟩; obtain ⟨⟨kc2, kf2⟩, hT3, hZ3, hM3, hR3⟩ := st_o (T := (Sg.i.read (Sg.q.read (Cm.zero 8, (tk bs e 1).2.1, (0 : Int))))) hT2 hZ2 hM2 rfl HLT.out hr hu)
        | (go_at_call 41; refine (num8 b _ _ _ hR1).mono ?_; rintro x w3 ⟨rfl, hr, hu⟩; obtain ⟨⟨kc1, kf1⟩, hT2, hZ2, hM2, hR2⟩ := st_i (T := (Sg.q.read (Cm.zero 8, (tk bs e 1).2.1, (0 : Int)))) hT1 hZ1 hM1 rfl HLT.out hr hu)
        | (go_at_call 47; refine (refText_rd b _ _ 32 (by decide) _ hR0).mono ?_; rintro x w2 ⟨rfl, hr, hu⟩; obtain ⟨⟨kc0, kf0⟩, hT1, hZ1, hM1, hR1⟩ := st_q (T := (Cm.zero 8, (tk bs e 1).2.1, (0 : Int))) hT0 hZ0 hM0 rfl HLT.out hr hu)
        | (go_at_call 41; refine (HO.out).mono ?_; rintro x w1 ⟨rfl, hr1, hu1⟩; obtain ⟨kc, kf, hT0, hZ0, hM0, hR0⟩ := rr_start 8 HLT.out hr1 hu1; have hb1 := hr1.c1; have hne1 := HNE.out))
      exact bodyPost_ret_by (resR Tryz.results19 _ rfl hres) rfl ⟨rfl, (by rw [HE.out, HS.out]; exact hR4.upd hz2 (by have := HLT.out; omega)), mod_upd' hM4 (Nat.le_refl _) hz2⟩
end Go.Proofs.YtoekggbbkcmknaaGreatDoor
/- The document's Read at some kinds. -/
namespace Go.Proofs.YtoekggbbkcmknaaGreatDoor
open Go.RowKit
attribute [local go_sem ↓] zeroC_eq newC_eq loadC_eq storeC_eq buildC_eq zeroR_eq newR_eq loadR_eq storeR_eq buildR_eq
attribute [local go_sem] run_zeroC run_newC run_buildC0 run_buildC1 run_neqC run_eqlC run_guardC run_zeroR run_newR run_buildR0 run_buildR1 run_neqR run_eqlR run_guardR
attribute [local go_sem ↓] bslC_eq bslR_eq
attribute [local go_sem] run_bslC run_bslR
set_option maxRecDepth 1000000
set_option maxHeartbeats 1500000 in
theorem refRead_12 (b : Nat) (bs : ByteArray) (e : Int) (w : World) (h : Rd w b bs e) (hk : Oc.val (tk bs e 1).1.data.toList = 12) (he : (tk bs e 1).2.2 = 0) :
    Calls Tryz.prog 19 #[.pointer (some ⟨b, 0, none⟩)] w fun x w' => x = .returned (readL (form 12) (Cm.zero 12, (tk bs e 1).2.1, 0)).1.agg ∧ Rd w' b (readL (form 12) (Cm.zero 12, (tk bs e 1).2.1, 0)).2.1 (readL (form 12) (Cm.zero 12, (tk bs e 1).2.1, 0)).2.2 ∧ Mod b w w' := by
  have hform : form 12 = [.q] := by decide
  rw [hform]
  simp only [readL, List.foldl_cons, List.foldl_nil]
  have HO := Lib.hid (num1 b bs e _ ((h.alloc (objR (Cm.zero 0))).alloc (objR (Cm.zero 0))))
  rw [hk, he] at HO
  have HLT := Lib.hid h.lt
  have HNE : Hid (True) := trivial
  clear h hform
  go_enter Tryz.func19, Tryz.ntmps19
  go_wp2_with (first
    | (go_at_call 47; refine (refText_rd b _ _ 32 (by decide) _ hR0).mono ?_; rintro x w2 ⟨rfl, hr, hu⟩; obtain ⟨⟨kc0, kf0⟩, hT1, hZ1, hM1, hR1⟩ := st_q (T := (Cm.zero 12, (tk bs e 1).2.1, (0 : Int))) hT0 hZ0 hM0 rfl HLT.out hr hu; have hl := run_loadR hT1; have hst := run_storeR hZ1 (Sg.q.read (Cm.zero 12, (tk bs e 1).2.1, (0 : Int))).1; obtain ⟨hz1, hz2⟩ := hZ1.stored (Sg.q.read (Cm.zero 12, (tk bs e 1).2.1, (0 : Int))).1; have hres := run_loadR hz1)
    | (go_at_call 41; refine (HO.out).mono ?_; rintro x w1 ⟨rfl, hr1, hu1⟩; obtain ⟨kc, kf, hT0, hZ0, hM0, hR0⟩ := rr_start 12 HLT.out hr1 hu1; have hb1 := hr1.c1; have hne1 := HNE.out))
  exact bodyPost_ret_by (resR Tryz.results19 _ rfl hres) rfl ⟨rfl, hR1.upd hz2 (by have := HLT.out; omega), mod_upd' hM1 (Nat.le_refl _) hz2⟩
set_option maxHeartbeats 1500000 in
theorem refRead_13 (b : Nat) (bs : ByteArray) (e : Int) (w : World) (h : Rd w b bs e) (hk : Oc.val (tk bs e 1).1.data.toList = 13) (he : (tk bs e 1).2.2 = 0) :
    Calls Tryz.prog 19 #[.pointer (some ⟨b, 0, none⟩)] w fun x w' => x = .returned (readL (form 13) (Cm.zero 13, (tk bs e 1).2.1, 0)).1.agg ∧ Rd w' b (readL (form 13) (Cm.zero 13, (tk bs e 1).2.1, 0)).2.1 (readL (form 13) (Cm.zero 13, (tk bs e 1).2.1, 0)).2.2 ∧ Mod b w w' := by
  have hform : form 13 = [.q, .i, .n] := by decide
  rw [hform]
  simp only [readL, List.foldl_cons, List.foldl_nil]
  have HO := Lib.hid (num1 b bs e _ ((h.alloc (objR (Cm.zero 0))).alloc (objR (Cm.zero 0))))
  rw [hk, he] at HO
  have HLT := Lib.hid h.lt
  have HNE : Hid (True) := trivial
  clear h hform
  go_enter Tryz.func19, Tryz.ntmps19
  go_wp2_with (first
    | (go_at_call 41; refine (num8 b _ _ _ hR2).mono ?_; rintro x w4 ⟨rfl, hr, hu⟩; obtain ⟨⟨kc2, kf2⟩, hT3, hZ3, hM3, hR3⟩ := st_n (T := (Sg.i.read (Sg.q.read (Cm.zero 13, (tk bs e 1).2.1, (0 : Int))))) hT2 hZ2 hM2 rfl HLT.out hr hu; have hl := run_loadR hT3; have hst := run_storeR hZ3 (Sg.n.read (Sg.i.read (Sg.q.read (Cm.zero 13, (tk bs e 1).2.1, (0 : Int))))).1; obtain ⟨hz1, hz2⟩ := hZ3.stored (Sg.n.read (Sg.i.read (Sg.q.read (Cm.zero 13, (tk bs e 1).2.1, (0 : Int))))).1; have hres := run_loadR hz1)
    | (go_at_call 41; refine (num8 b _ _ _ hR1).mono ?_; rintro x w3 ⟨rfl, hr, hu⟩; obtain ⟨⟨kc1, kf1⟩, hT2, hZ2, hM2, hR2⟩ := st_i (T := (Sg.q.read (Cm.zero 13, (tk bs e 1).2.1, (0 : Int)))) hT1 hZ1 hM1 rfl HLT.out hr hu)
    | (go_at_call 47; refine (refText_rd b _ _ 32 (by decide) _ hR0).mono ?_; rintro x w2 ⟨rfl, hr, hu⟩; obtain ⟨⟨kc0, kf0⟩, hT1, hZ1, hM1, hR1⟩ := st_q (T := (Cm.zero 13, (tk bs e 1).2.1, (0 : Int))) hT0 hZ0 hM0 rfl HLT.out hr hu)
    | (go_at_call 41; refine (HO.out).mono ?_; rintro x w1 ⟨rfl, hr1, hu1⟩; obtain ⟨kc, kf, hT0, hZ0, hM0, hR0⟩ := rr_start 13 HLT.out hr1 hu1; have hb1 := hr1.c1; have hne1 := HNE.out))
  exact bodyPost_ret_by (resR Tryz.results19 _ rfl hres) rfl ⟨rfl, hR3.upd hz2 (by have := HLT.out; omega), mod_upd' hM3 (Nat.le_refl _) hz2⟩
end Go.Proofs.YtoekggbbkcmknaaGreatDoor
/- The document's Read, of any bytes; its Parse. -/
namespace Go.Proofs.YtoekggbbkcmknaaGreatDoor
open Go.RowKit
attribute [local go_sem ↓] zeroC_eq newC_eq loadC_eq storeC_eq buildC_eq zeroR_eq newR_eq loadR_eq storeR_eq buildR_eq
attribute [local go_sem] run_zeroC run_newC run_buildC0 run_buildC1 run_neqC run_eqlC run_guardC run_zeroR run_newR run_buildR0 run_buildR1 run_neqR run_eqlR run_guardR
attribute [local go_sem ↓] bslC_eq bslR_eq
attribute [local go_sem] run_bslC run_bslR
set_option maxRecDepth 1000000
set_option maxHeartbeats 1500000 in
theorem refRead_any (b : Nat) (bs : ByteArray) (e : Int) (w : World) (h : Rd w b bs e) :
    Calls Tryz.prog 19 #[.pointer (some ⟨b, 0, none⟩)] w fun x w' => x = .returned (readR bs e).1.agg ∧ Rd w' b (readR bs e).2.1 (readR bs e).2.2 ∧ Mod b w w' := by
  unfold readR
  simp only
  by_cases he : (tk bs e 1).2.2 = 0
  · by_cases hk : known ((Oc.val (tk bs e 1).1.data.toList : Nat) : Int) = true
    · rw [if_pos hk, he]
      obtain ⟨h1, h2⟩ := known_iff.1 hk
      generalize hn : Oc.val (tk bs e 1).1.data.toList = n at h1 h2 hk
      have hc : n = 1 ∨ n = 2 ∨ n = 3 ∨ n = 4 ∨ n = 5 ∨ n = 6 ∨ n = 7 ∨ n = 8 ∨ n = 9 ∨ n = 10 ∨ n = 11 ∨ n = 12 ∨ n = 13 := by omega
      clear h1 h2 hk
      rcases hc with rfl | rfl | rfl | rfl | rfl | rfl | rfl | rfl | rfl | rfl | rfl | rfl | rfl
      · exact refRead_1 b bs e w h hn he
      · exact refRead_2 b bs e w h hn he
      · exact refRead_3 b bs e w h hn he
      · exact refRead_4 b bs e w h hn he
      · exact refRead_5 b bs e w h hn he
      · exact refRead_6 b bs e w h hn he
      · exact refRead_7 b bs e w h hn he
      · exact refRead_8 b bs e w h hn he
      · exact refRead_9 b bs e w h hn he
      · exact refRead_10 b bs e w h hn he
      · exact refRead_11 b bs e w h hn he
      · exact refRead_12 b bs e w h hn he
      · exact refRead_13 b bs e w h hn he
    · rw [if_neg hk, he]
      rw [if_pos rfl]
      have hv8 := vlt8 bs e
      have HO := Lib.hid (num1 b bs e _ ((h.alloc (objR (Cm.zero 0))).alloc (objR (Cm.zero 0))))
      rw [he] at HO
      have HLT := Lib.hid h.lt
      clear h he
      revert HO hk hv8
      generalize Oc.val (tk bs e 1).1.data.toList = n
      generalize (tk bs e 1).2.1 = r
      intro hk hv8 HO
      have HFL := Lib.hid (fun W (hW : Rd W b r 0) => refFail_any b r 0 11 W hW)
      rw [if_pos rfl] at HFL
      have hk2 : (n : Int) < 1 ∨ 13 < (n : Int) := by
        rcases Classical.em ((n : Int) < 1) with h | h
        · exact .inl h
        · exact .inr (by
            have : ¬ (1 ≤ (n : Int) ∧ (n : Int) ≤ 13) := fun h => hk (known_iff.2 h)
            omega)
      clear hk
      rcases Classical.em ((n : Int) < 1) with h1 | h1
      · clear hk2
        go_enter Tryz.func19, Tryz.ntmps19
        go_wp2_with (first
      | (go_at_call 42; refine (HFL.out _ hr1).mono ?_; rintro x w2 ⟨rfl, hr2, hu2⟩; have hb2 := hr2.c1; have h1 := (((BxC.newR w (Cm.zero 0)).alloc (objR (Cm.zero 0))).upd hu1 (by have := HLT.out; omega)).upd hu2 (by have := HLT.out; omega); have h2 := BxC.newR (w.alloc (objR (Cm.zero 0))) (Cm.zero 0); rw [World.size_alloc] at h2; have h3 := (h2.upd hu1 (by have := HLT.out; omega)).upd hu2 (by have := HLT.out; omega); have hl := run_loadR h3; have hst := run_storeR h1 (Cm.zero 0); obtain ⟨hz1, hz2⟩ := h1.stored (Cm.zero 0); have hres := run_loadR hz1)
      | (go_at_call 41; refine (HO.out).mono ?_; rintro x w1 ⟨rfl, hr1, hu1⟩; have hb1 := hr1.c1))
        exact bodyPost_ret_by (resR Tryz.results19 _ rfl hres) rfl ⟨rfl, hr2.upd hz2 (by have := HLT.out; omega), mod_upd' (((((Mod.refl b w).alloc _).alloc _).upd hu1).upd hu2) (Nat.le_refl _) hz2⟩
      · have h2 : 13 < (n : Int) := by omega
        have hd : decide ((n : Int) < 1) = false := decide_eq_false h1
        clear hk2
        go_enter Tryz.func19, Tryz.ntmps19
        go_wp2_with (first
      | (go_at_call 42; refine (HFL.out _ hr1).mono ?_; rintro x w2 ⟨rfl, hr2, hu2⟩; have hb2 := hr2.c1; have h1 := (((BxC.newR w (Cm.zero 0)).alloc (objR (Cm.zero 0))).upd hu1 (by have := HLT.out; omega)).upd hu2 (by have := HLT.out; omega); have h2 := BxC.newR (w.alloc (objR (Cm.zero 0))) (Cm.zero 0); rw [World.size_alloc] at h2; have h3 := (h2.upd hu1 (by have := HLT.out; omega)).upd hu2 (by have := HLT.out; omega); have hl := run_loadR h3; have hst := run_storeR h1 (Cm.zero 0); obtain ⟨hz1, hz2⟩ := h1.stored (Cm.zero 0); have hres := run_loadR hz1)
      | (go_at_call 41; refine (HO.out).mono ?_; rintro x w1 ⟨rfl, hr1, hu1⟩; have hb1 := hr1.c1))
        exact bodyPost_ret_by (resR Tryz.results19 _ rfl hres) rfl ⟨rfl, hr2.upd hz2 (by have := HLT.out; omega), mod_upd' (((((Mod.refl b w).alloc _).alloc _).upd hu1).upd hu2) (Nat.le_refl _) hz2⟩
  · have hz := tk_err bs e he
    rw [hz, if_neg (by decide), if_neg he]
    have HO := Lib.hid (num1 b bs e _ ((h.alloc (objR (Cm.zero 0))).alloc (objR (Cm.zero 0))))
    rw [hz] at HO
    have HLT := Lib.hid h.lt
    clear h hz
    revert HO he
    generalize (tk bs e 1).2.2 = e1
    generalize (tk bs e 1).2.1 = r
    intro he HO
    have hd : (e1 == 0) = false := by rw [beq_eq_false_iff_ne]; exact he
    have hd' : (e1 != 0) = true := by rw [bne_iff_ne]; exact he
    go_enter Tryz.func19, Tryz.ntmps19
    go_wp2_with (go_at_call 41; refine (HO.out).mono ?_; rintro x w1 ⟨rfl, hr1, hu1⟩; have hb1 := hr1.c1; have h1 := ((BxC.newR w (Cm.zero 0)).alloc (objR (Cm.zero 0))).upd hu1 (by have := HLT.out; omega); have h2 := BxC.newR (w.alloc (objR (Cm.zero 0))) (Cm.zero 0); rw [World.size_alloc] at h2; have h3 := h2.upd hu1 (by have := HLT.out; omega); have hl := run_loadR h3; have hst := run_storeR h1 (Cm.zero 0); obtain ⟨hz1, hz2⟩ := h1.stored (Cm.zero 0); have hres := run_loadR hz1)
    exact bodyPost_ret_by (resR Tryz.results19 _ rfl hres) rfl ⟨rfl, hr1.upd hz2 (by have := HLT.out; omega), mod_upd' ((((Mod.refl b w).alloc _).alloc _).upd hu1) (Nat.le_refl _) hz2⟩
end Go.Proofs.YtoekggbbkcmknaaGreatDoor
/- The document's Parse and ParseBatch. -/
namespace Go.Proofs.YtoekggbbkcmknaaGreatDoor
open Go.RowKit
attribute [local go_sem ↓] zeroC_eq newC_eq loadC_eq storeC_eq buildC_eq zeroR_eq newR_eq loadR_eq storeR_eq buildR_eq
attribute [local go_sem] run_zeroC run_newC run_buildC0 run_buildC1 run_neqC run_eqlC run_guardC run_zeroR run_newR run_buildR0 run_buildR1 run_neqR run_eqlR run_guardR
attribute [local go_sem ↓] bslC_eq bslR_eq
attribute [local go_sem] run_bslC run_bslR
/-- So many commands as the document's reader has them. -/
def getsD : Nat → ByteArray → Int → List Cm × ByteArray × Int
  | 0, s, e => ([], s, e)
  | k + 1, s, e => if e ≠ 0 then ([], s, e) else ((readR s e).1 :: (getsD k (readR s e).2.1 (readR s e).2.2).1, (getsD k (readR s e).2.1 (readR s e).2.2).2)
theorem getsD_bad (k : Nat) (s : ByteArray) (e : Int) (h : e ≠ 0) : getsD k s e = ([], s, e) := by
  cases k with
  | zero => rfl
  | succ k => unfold getsD; rw [if_pos h]
theorem getsD_succ (k : Nat) (s : ByteArray) : getsD (k + 1) s 0 = ((readR s 0).1 :: (getsD k (readR s 0).2.1 (readR s 0).2.2).1, (getsD k (readR s 0).2.1 (readR s 0).2.2).2) := by
  rw [getsD, if_neg (by decide)]
theorem readC_rest (s : ByteArray) (e : Int) : (readC s e).2 = (readR s e).2 := by
  unfold readC
  simp only
  split <;> rfl
theorem readC_ok (s : ByteArray) (e : Int) (h : (readR s e).2.2 = 0) : readC s e = readR s e := by
  unfold readC
  simp only
  rw [if_pos h]
theorem gets_rest : ∀ (k : Nat) (s : ByteArray) (e : Int), (getsC k s e).2 = (getsD k s e).2
  | 0, _, _ => rfl
  | k + 1, s, e => by
    by_cases h : e = 0
    · subst h
      rw [getsC_succ, getsD_succ]
      show (getsC k (readC s 0).2.1 (readC s 0).2.2).2 = _
      rw [readC_rest, gets_rest k]
    · rw [getsC_bad _ _ _ h, getsD_bad _ _ _ h]
theorem gets_ok : ∀ (k : Nat) (s : ByteArray) (e : Int), (getsD k s e).2.2 = 0 → getsC k s e = getsD k s e
  | 0, _, _, _ => rfl
  | k + 1, s, e, h => by
    by_cases h0 : e = 0
    · subst h0
      rw [getsD_succ] at h
      rw [getsC_succ, getsD_succ]
      have hr : (readR s 0).2.2 = 0 := by
        rcases Classical.em ((readR s 0).2.2 = 0) with h1 | h1
        · exact h1
        · have h2 : (getsD k (readR s 0).2.1 (readR s 0).2.2).2.2 = 0 := h
          rw [getsD_bad _ _ _ h1] at h2
          exact absurd h2 h1
      rw [readC_ok s 0 hr, gets_ok k _ _ h]
    · rw [getsC_bad _ _ _ h0, getsD_bad _ _ _ h0]
theorem fin_zero {s : ByteArray} {e : Int} (h : fin s e = 0) : e = 0 := by
  unfold fin at h
  split at h
  · rename_i h1; exact h1.1
  · exact h
def parseD (s : ByteArray) : Cm × Int :=
  let G := readR s 0
  if fin G.2.1 G.2.2 = 0 then (G.1, 0) else (Cm.zero 0, fin G.2.1 G.2.2)
theorem parse_same (s : ByteArray) : readG s = parseD s := by
  unfold readG parseD
  simp only
  have h1 : (readC s 0).2.1 = (readR s 0).2.1 := congrArg Prod.fst (readC_rest s 0)
  have h2 : (readC s 0).2.2 = (readR s 0).2.2 := congrArg Prod.snd (readC_rest s 0)
  rw [h1, h2]
  by_cases h : fin (readR s 0).2.1 (readR s 0).2.2 = 0
  · rw [if_pos h, if_pos h, readC_ok s 0 (fin_zero h)]
  · rw [if_neg h, if_neg h]
/-- What the document's ParseBatch begins with. -/
def cntD (s : ByteArray) : Nat × ByteArray × Int :=
  let T := tk s 0 4
  (Oc.val T.1.data.toList, T.2.1, if 64 < Oc.val T.1.data.toList then (if T.2.2 = 0 then 6 else T.2.2) else T.2.2)
def listD (s : ByteArray) : List Cm × Int :=
  ((getsD (cntD s).1 (cntD s).2.1 (cntD s).2.2).1, fin (getsD (cntD s).1 (cntD s).2.1 (cntD s).2.2).2.1 (getsD (cntD s).1 (cntD s).2.1 (cntD s).2.2).2.2)
theorem tk4_err (bs : ByteArray) (e : Int) (h : (tk bs e 4).2.2 ≠ 0) : Oc.val (tk bs e 4).1.data.toList = 0 := by
  unfold tk at h ⊢
  split at h
  · rename_i h1; rw [if_pos h1]; rfl
  · rename_i h1
    rw [if_neg h1]
    split at h
    · rename_i h2; rw [if_pos h2]; rfl
    · exact absurd rfl h
theorem list_err (s : ByteArray) : (listC s 64).2 = (listD s).2 := by
  unfold listC listD cntD cnt
  simp only
  have ht := tk4_err s 0
  generalize tk s 0 4 = T at ht ⊢
  generalize Oc.val T.1.data.toList = n at ht ⊢
  by_cases h : 64 < n
  · have h1 : (n : Int) > (if (0 : Int) ≤ 64 then 64 else 0) := by rw [if_pos (by decide)]; omega
    rw [if_pos h1, if_pos h]
    have h3 : (if T.2.2 = 0 then (6 : Int) else T.2.2) ≠ 0 := by split <;> omega
    show fin (getsC 0 _ _).2.1 (getsC 0 _ _).2.2 = _
    rw [getsD_bad _ _ _ h3]
    rfl
  · have h1 : ¬ (n : Int) > (if (0 : Int) ≤ 64 then 64 else 0) := by rw [if_pos (by decide)]; omega
    rw [if_neg h1, if_neg h]
    simp only
    rw [gets_rest]
theorem list_ok (s : ByteArray) (h0 : (listD s).2 = 0) : (listC s 64).1 = (listD s).1 := by
  have ht := tk4_err s 0
  unfold listC listD cntD cnt at *
  simp only at *
  generalize tk s 0 4 = T at ht h0 ⊢
  generalize Oc.val T.1.data.toList = n at ht h0 ⊢
  by_cases h : 64 < n
  · rw [if_pos h] at h0
    have h3 : (if T.2.2 = 0 then (6 : Int) else T.2.2) ≠ 0 := by split <;> omega
    rw [getsD_bad _ _ _ h3] at h0
    exact absurd (fin_zero h0) h3
  · have h1 : ¬ (n : Int) > (if (0 : Int) ≤ 64 then 64 else 0) := by rw [if_pos (by decide)]; omega
    rw [if_neg h] at h0
    rw [if_neg h1, if_neg h]
    simp only
    rw [gets_ok _ _ _ (fin_zero h0)]
theorem rdNew (w : World) (s : ByteArray) : Rd (w.alloc (.cells #[.string s, .int .i64 0] 56)) w.heap.size s 0 := by constructor <;> simp
theorem resPd {w : World} {g : Nat} {v : Value} {e : Int} {tmps : Array Value} (ht : tmps.getD 2 undef = .pointer (some ⟨g, 0, none⟩)) (h5 : tmps[3]? = some (.int .i64 e)) (hl : (loadR ⟨g, 0, none⟩).run Tryz.prog w = .ok v w) :
    (results Tryz.f14 tmps).run Tryz.prog w = .ok (.tuple #[v, .int .i64 e]) w := by
  have ht' : tmps[2]?.getD undef = .pointer (some ⟨g, 0, none⟩) := by simpa using ht
  have hl' : (loadVar 40 ⟨g, 0, none⟩).run Tryz.prog w = .ok v w := hl
  simp [results, Tryz.results14, ht', h5, asAddr, hl']
set_option maxHeartbeats 1500000 in
theorem refParse_any (s : ByteArray) (w : World) :
    Calls Tryz.prog 14 #[.string s] w fun x w' => x = .returned (.tuple #[(parseD s).1.agg, .int .i64 (parseD s).2]) ∧ Below w.heap.size w w' := by
  unfold parseD
  have HRD := Lib.hid (rdNew (w.alloc (objR (Cm.zero 0))) s)
  have HZ := Lib.hid ((BxC.newR w (Cm.zero 0)).alloc (.cells #[.string s, .int .i64 0] 56))
  have HR := Lib.hid (fun b W (hW : Rd W b s 0) => refRead_any b s 0 W hW)
  simp only
  revert HR
  generalize readR s 0 = X
  obtain ⟨xc, s1, e1⟩ := X
  intro HR
  simp only at HR ⊢
  have HE := Lib.hid (fun b W (hW : Rd W b s1 e1) => refEnd_rd b s1 e1 W hW)
  revert HE
  generalize fin s1 e1 = f
  intro HE
  rw [World.size_alloc] at HRD
  by_cases hf : f = 0
  · subst hf
    rw [if_pos rfl]
    go_enter Tryz.func14, Tryz.ntmps14
    go_wp2_with (first
      | (go_at_call 19; refine (HR.out _ _ HRD.out).mono ?_; rintro x w1 ⟨rfl, hr1, hm1⟩; have hz := (HZ.out.mod hm1 (by omega)).alloc (objR (Cm.zero 0)); have hn := BxC.newR w1 (Cm.zero 0); have hst1 := run_storeR hn xc; obtain ⟨hn2, hu2⟩ := hn.stored xc; have hr2 := (hr1.alloc (objR (Cm.zero 0))).upd hu2 (by have := hr1.lt; omega); have hz2 := hz.upd hu2 (by have := hr1.lt; omega); have hl := run_loadR hn2; have hst2 := run_storeR hz2 xc; obtain ⟨hz3, hu3⟩ := hz2.stored xc; have hres := run_loadR hz3)
      | (go_at_call 39; refine (HE.out _ _ hr2).mono ?_; rintro x w2 ⟨rfl, rfl⟩))
    have hB1 : Below w.heap.size w w1 := (((Below.refl _ _).alloc (Nat.le_refl _) _).alloc (by simp) _).trans (hm1.below (by omega) (by simp; omega))
    exact bodyPost_ret_by (resPd rfl rfl hres) rfl ⟨rfl, ((hB1.alloc hB1.size _).trans (hu2.below hB1.size)).trans (hu3.below (Nat.le_refl _))⟩
  · have hf' : (f != 0) = true := by rw [bne_iff_ne]; exact hf
    rw [if_neg hf]
    go_enter Tryz.func14, Tryz.ntmps14
    go_wp2_with (first
      | (go_at_call 19; refine (HR.out _ _ HRD.out).mono ?_; rintro x w1 ⟨rfl, hr1, hm1⟩; have hz := (HZ.out.mod hm1 (by omega)).alloc (objR (Cm.zero 0)); have hn := BxC.newR w1 (Cm.zero 0); have hst1 := run_storeR hn xc; obtain ⟨hn2, hu2⟩ := hn.stored xc; have hr2 := (hr1.alloc (objR (Cm.zero 0))).upd hu2 (by have := hr1.lt; omega); have hz2 := hz.upd hu2 (by have := hr1.lt; omega); have hl := run_loadR hn2; have hst2 := run_storeR hz2 (Cm.zero 0); obtain ⟨hz3, hu3⟩ := hz2.stored (Cm.zero 0); have hres := run_loadR hz3)
      | (go_at_call 39; refine (HE.out _ _ hr2).mono ?_; rintro x w2 ⟨rfl, rfl⟩))
    have hB1 : Below w.heap.size w w1 := (((Below.refl _ _).alloc (Nat.le_refl _) _).alloc (by simp) _).trans (hm1.below (by omega) (by simp; omega))
    exact bodyPost_ret_by (resPd rfl rfl hres) rfl ⟨rfl, ((hB1.alloc hB1.size _).trans (hu2.below hB1.size)).trans (hu3.below (Nat.le_refl _))⟩
end Go.Proofs.YtoekggbbkcmknaaGreatDoor
