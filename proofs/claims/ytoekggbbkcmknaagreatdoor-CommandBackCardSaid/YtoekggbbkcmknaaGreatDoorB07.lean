/- Texts of one seat, merged. -/
import Derived.Test.YtoekggbbkcmknaaGreatDoorB06
import Derived.Lib.AppendZeros
import Derived.Test.YtoekggbbkcmknaaGreatDoorB05
import Derived.Deep.LoopGhost
set_option maxRecDepth 100000
set_option maxHeartbeats 4000000
set_option linter.unusedVariables false
/- The document's Read at some kinds. -/
namespace Go.Proofs.YtoekggbbkcmknaaGreatDoor
open Go.RowKit
theorem st_xv {T : Cm × ByteArray × Int} {v : Nat} (hv : v = Oc.val (tk T.2.1 T.2.2 1).1.data.toList) {w0 W w1 : World} {b g : Nat} (hT : BxC W g T.1) (hZ : BxC W w0.heap.size (Cm.zero 0)) (hM : Mod b w0 W) (hg : g = w0.heap.size + 1) (hb : b < w0.heap.size) (hr : Rd w1 b (tk T.2.1 T.2.2 1).2.1 (tk T.2.1 T.2.2 1).2.2) (hu : Upd b W w1) :
    (w1.cell? ⟨g, 17, none⟩ = some (.bool T.1.dead) ∧ w1.frozen? ⟨g, 17, none⟩ = false) ∧ BxC (w1.setCell ⟨g, 17, none⟩ (.bool (((v : Nat) : Int) == 1))) g (Sg.x.read T).1 ∧ BxC (w1.setCell ⟨g, 17, none⟩ (.bool (((v : Nat) : Int) == 1))) w0.heap.size (Cm.zero 0) ∧ Mod b w0 (w1.setCell ⟨g, 17, none⟩ (.bool (((v : Nat) : Int) == 1))) ∧ Rd (w1.setCell ⟨g, 17, none⟩ (.bool (((v : Nat) : Int) == 1))) b (tk T.2.1 T.2.2 1).2.1 (tk T.2.1 T.2.2 1).2.2 := by
  subst hv
  have hd : (((Oc.val (tk T.2.1 T.2.2 1).1.data.toList : Nat) : Int) == 1) = decide (Oc.val (tk T.2.1 T.2.2 1).1.data.toList = 1) := by
    generalize Oc.val (tk T.2.1 T.2.2 1).1.data.toList = v
    by_cases h2 : v = 1
    · rw [decide_eq_true h2, h2]; rfl
    · rw [decide_eq_false h2, beq_eq_false_iff_ne]; omega
  rw [hd]
  exact st_x hT hZ hM hg hb hr hu
theorem num1v {s : ByteArray} {e : Int} {v : Nat} (hv : v = Oc.val (tk s e 1).1.data.toList) (b : Nat) (s' : ByteArray) (e' : Int) (w : World) (h : Rd w b s e) :
    Calls Tryz.prog 41 #[.pointer (some ⟨b, 0, none⟩), .int .i64 1] w fun x w' => x = .returned (.int .u64 (v : Nat)) ∧ Rd w' b (tk s e 1).2.1 (tk s e 1).2.2 ∧ Upd b w w' := by
  subst hv
  exact num1 b s e w h
theorem st_xd {T : Cm × ByteArray × Int} {dv : Bool} (hv : dv = decide (Oc.val (tk T.2.1 T.2.2 1).1.data.toList = 1)) {w0 W w1 : World} {b g : Nat} (hT : BxC W g T.1) (hZ : BxC W w0.heap.size (Cm.zero 0)) (hM : Mod b w0 W) (hg : g = w0.heap.size + 1) (hb : b < w0.heap.size) (hr : Rd w1 b (tk T.2.1 T.2.2 1).2.1 (tk T.2.1 T.2.2 1).2.2) (hu : Upd b W w1) :
    (w1.cell? ⟨g, 17, none⟩ = some (.bool T.1.dead) ∧ w1.frozen? ⟨g, 17, none⟩ = false) ∧ BxC (w1.setCell ⟨g, 17, none⟩ (.bool dv)) g (Sg.x.read T).1 ∧ BxC (w1.setCell ⟨g, 17, none⟩ (.bool dv)) w0.heap.size (Cm.zero 0) ∧ Mod b w0 (w1.setCell ⟨g, 17, none⟩ (.bool dv)) ∧ Rd (w1.setCell ⟨g, 17, none⟩ (.bool dv)) b (tk T.2.1 T.2.2 1).2.1 (tk T.2.1 T.2.2 1).2.2 := by
  subst hv
  exact st_x hT hZ hM hg hb hr hu
theorem num1n {s : ByteArray} {e : Int} {n : Int} (hv : n = ((Oc.val (tk s e 1).1.data.toList : Nat) : Int)) (b : Nat) (w : World) (h : Rd w b s e) :
    Calls Tryz.prog 41 #[.pointer (some ⟨b, 0, none⟩), .int .i64 1] w fun x w' => x = .returned (.int .u64 n) ∧ Rd w' b (tk s e 1).2.1 (tk s e 1).2.2 ∧ Upd b w w' := by
  subst hv
  exact num1 b s e w h
attribute [local go_sem ↓] zeroC_eq newC_eq loadC_eq storeC_eq buildC_eq zeroR_eq newR_eq loadR_eq storeR_eq buildR_eq
attribute [local go_sem] run_zeroC run_newC run_buildC0 run_buildC1 run_neqC run_eqlC run_guardC run_zeroR run_newR run_buildR0 run_buildR1 run_neqR run_eqlR run_guardR
attribute [local go_sem ↓] bslC_eq bslR_eq
attribute [local go_sem] run_bslC run_bslR
set_option maxRecDepth 1000000
set_option maxHeartbeats 500000 in
theorem refRead_8 (b : Nat) (bs : ByteArray) (e : Int) (w : World) (h : Rd w b bs e) (hk : Oc.val (tk bs e 1).1.data.toList = 8) (he : (tk bs e 1).2.2 = 0) :
    Calls Tryz.prog 19 #[.pointer (some ⟨b, 0, none⟩)] w fun x w' => x = .returned (readL (form 8) (Cm.zero 8, (tk bs e 1).2.1, 0)).1.agg ∧ Rd w' b (readL (form 8) (Cm.zero 8, (tk bs e 1).2.1, 0)).2.1 (readL (form 8) (Cm.zero 8, (tk bs e 1).2.1, 0)).2.2 ∧ Mod b w w' := by
  have hform : form 8 = [.q, .i, .o, .x] := by decide
  rw [hform]
  simp only [readL, List.foldl_cons, List.foldl_nil]
  have HO := Lib.hid (num1 b bs e _ ((h.alloc (objR (Cm.zero 0))).alloc (objR (Cm.zero 0))))
  rw [hk, he] at HO
  have HLT := Lib.hid h.lt
  have HNE : Hid (True) := trivial
  clear h hform
  have hx1 : (Sg.x.read (Sg.o.read (Sg.i.read (Sg.q.read (Cm.zero 8, (tk bs e 1).2.1, (0 : Int)))))).2.1 = (tk (Sg.o.read (Sg.i.read (Sg.q.read (Cm.zero 8, (tk bs e 1).2.1, (0 : Int))))).2.1 (Sg.o.read (Sg.i.read (Sg.q.read (Cm.zero 8, (tk bs e 1).2.1, (0 : Int))))).2.2 1).2.1 := rfl
  have hx2 : (Sg.x.read (Sg.o.read (Sg.i.read (Sg.q.read (Cm.zero 8, (tk bs e 1).2.1, (0 : Int)))))).2.2 = (if 1 < Oc.val (tk (Sg.o.read (Sg.i.read (Sg.q.read (Cm.zero 8, (tk bs e 1).2.1, (0 : Int))))).2.1 (Sg.o.read (Sg.i.read (Sg.q.read (Cm.zero 8, (tk bs e 1).2.1, (0 : Int))))).2.2 1).1.data.toList then (if (tk (Sg.o.read (Sg.i.read (Sg.q.read (Cm.zero 8, (tk bs e 1).2.1, (0 : Int))))).2.1 (Sg.o.read (Sg.i.read (Sg.q.read (Cm.zero 8, (tk bs e 1).2.1, (0 : Int))))).2.2 1).2.2 = 0 then 4 else (tk (Sg.o.read (Sg.i.read (Sg.q.read (Cm.zero 8, (tk bs e 1).2.1, (0 : Int))))).2.1 (Sg.o.read (Sg.i.read (Sg.q.read (Cm.zero 8, (tk bs e 1).2.1, (0 : Int))))).2.2 1).2.2) else (tk (Sg.o.read (Sg.i.read (Sg.q.read (Cm.zero 8, (tk bs e 1).2.1, (0 : Int))))).2.1 (Sg.o.read (Sg.i.read (Sg.q.read (Cm.zero 8, (tk bs e 1).2.1, (0 : Int))))).2.2 1).2.2) := rfl
  rw [hx1, hx2]
  clear hx1 hx2
  have hlt := vlt8 (Sg.o.read (Sg.i.read (Sg.q.read (Cm.zero 8, (tk bs e 1).2.1, (0 : Int))))).2.1 (Sg.o.read (Sg.i.read (Sg.q.read (Cm.zero 8, (tk bs e 1).2.1, (0 : Int))))).2.2
  obtain ⟨v, hv⟩ : ∃ v : Nat, v = Oc.val (tk (Sg.o.read (Sg.i.read (Sg.q.read (Cm.zero 8, (tk bs e 1).2.1, (0 : Int))))).2.1 (Sg.o.read (Sg.i.read (Sg.q.read (Cm.zero 8, (tk bs e 1).2.1, (0 : Int))))).2.2 1).1.data.toList := ⟨_, rfl⟩
  rw [← hv] at hlt
  rw [← hv]
  have HV := Lib.hid hv
  have HW := Lib.hid hlt
  clear hv hlt
  by_cases h1 : 1 < v
  · rw [if_pos h1]
    obtain ⟨ee, hee⟩ : ∃ ee : Int, ee = (if (tk (Sg.o.read (Sg.i.read (Sg.q.read (Cm.zero 8, (tk bs e 1).2.1, (0 : Int))))).2.1 (Sg.o.read (Sg.i.read (Sg.q.read (Cm.zero 8, (tk bs e 1).2.1, (0 : Int))))).2.2 1).2.2 = 0 then 4 else (tk (Sg.o.read (Sg.i.read (Sg.q.read (Cm.zero 8, (tk bs e 1).2.1, (0 : Int))))).2.1 (Sg.o.read (Sg.i.read (Sg.q.read (Cm.zero 8, (tk bs e 1).2.1, (0 : Int))))).2.2 1).2.2) := ⟨_, rfl⟩
    obtain ⟨rs, hrs⟩ : ∃ rs : ByteArray, rs = (tk (Sg.o.read (Sg.i.read (Sg.q.read (Cm.zero 8, (tk bs e 1).2.1, (0 : Int))))).2.1 (Sg.o.read (Sg.i.read (Sg.q.read (Cm.zero 8, (tk bs e 1).2.1, (0 : Int))))).2.2 1).2.1 := ⟨_, rfl⟩
    rw [← hee, ← hrs]
    have HE := Lib.hid hee
    have HS := Lib.hid hrs
    clear hee hrs
    have HG : Hid ((1 : Int) < ((v : Nat) : Int)) := Lib.hid (by omega)
    clear h1
    go_enter Tryz.func19, Tryz.ntmps19
    go_wp2_with (first
      | (go_at_call 42; refine (refFail_any b _ _ 4 _ hR4).mono ?_; rintro x w9 ⟨rfl, hr9, hu9⟩; have hT9 := hT4.upd hu9 (by have := HLT.out; omega); have hZ9 := hZ4.upd hu9 (by have := HLT.out; omega); have hM9 := hM4.upd hu9; have hl := run_loadR hT9; have hst := run_storeR hZ9 (Sg.x.read (Sg.o.read (Sg.i.read (Sg.q.read (Cm.zero 8, (tk bs e 1).2.1, (0 : Int)))))).1; obtain ⟨hz1, hz2⟩ := hZ9.stored (Sg.x.read (Sg.o.read (Sg.i.read (Sg.q.read (Cm.zero 8, (tk bs e 1).2.1, (0 : Int)))))).1; have hres := run_loadR hz1)
      | (go_at_call 41; refine (num1v HV.out b (Sg.o.read (Sg.i.read (Sg.q.read (Cm.zero 8, (tk bs e 1).2.1, (0 : Int))))).2.1 (Sg.o.read (Sg.i.read (Sg.q.read (Cm.zero 8, (tk bs e 1).2.1, (0 : Int))))).2.2 _ hR3).mono ?_; rintro x w5 ⟨rfl, hr, hu⟩; have hg := HG.out; have hlt := HW.out; obtain ⟨⟨kc3, kf3⟩, hT4, hZ4, hM4, hR4⟩ := st_xv (T := (Sg.o.read (Sg.i.read (Sg.q.read (Cm.zero 8, (tk bs e 1).2.1, (0 : Int)))))) HV.out hT3 hZ3 hM3 rfl HLT.out hr hu)
      | (go_at_call 41; refine (num8 b _ _ _ hR2).mono ?_; rintro x w4 ⟨rfl, hr, hu⟩; obtain ⟨⟨kc2, kf2⟩, hT3, hZ3, hM3, hR3⟩ := st_o (T := (Sg.i.read (Sg.q.read (Cm.zero 8, (tk bs e 1).2.1, (0 : Int))))) hT2 hZ2 hM2 rfl HLT.out hr hu)
      | (go_at_call 41; refine (num8 b _ _ _ hR1).mono ?_; rintro x w3 ⟨rfl, hr, hu⟩; obtain ⟨⟨kc1, kf1⟩, hT2, hZ2, hM2, hR2⟩ := st_i (T := (Sg.q.read (Cm.zero 8, (tk bs e 1).2.1, (0 : Int)))) hT1 hZ1 hM1 rfl HLT.out hr hu)
      | (go_at_call 47; refine (refText_rd b _ _ 32 (by decide) _ hR0).mono ?_; rintro x w2 ⟨rfl, hr, hu⟩; obtain ⟨⟨kc0, kf0⟩, hT1, hZ1, hM1, hR1⟩ := st_q (T := (Cm.zero 8, (tk bs e 1).2.1, (0 : Int))) hT0 hZ0 hM0 rfl HLT.out hr hu)
      | (go_at_call 41; refine (HO.out).mono ?_; rintro x w1 ⟨rfl, hr1, hu1⟩; obtain ⟨kc, kf, hT0, hZ0, hM0, hR0⟩ := rr_start 8 HLT.out hr1 hu1; have hb1 := hr1.c1; have hne1 := HNE.out))
    exact bodyPost_ret_by (resR Tryz.results19 _ rfl hres) rfl ⟨rfl, (by rw [HE.out, HS.out]; exact hr9.upd hz2 (by have := HLT.out; omega)), mod_upd' hM9 (Nat.le_refl _) hz2⟩
  · rw [if_neg h1]
    obtain ⟨ee, hee⟩ : ∃ ee : Int, ee = (tk (Sg.o.read (Sg.i.read (Sg.q.read (Cm.zero 8, (tk bs e 1).2.1, (0 : Int))))).2.1 (Sg.o.read (Sg.i.read (Sg.q.read (Cm.zero 8, (tk bs e 1).2.1, (0 : Int))))).2.2 1).2.2 := ⟨_, rfl⟩
    obtain ⟨rs, hrs⟩ : ∃ rs : ByteArray, rs = (tk (Sg.o.read (Sg.i.read (Sg.q.read (Cm.zero 8, (tk bs e 1).2.1, (0 : Int))))).2.1 (Sg.o.read (Sg.i.read (Sg.q.read (Cm.zero 8, (tk bs e 1).2.1, (0 : Int))))).2.2 1).2.1 := ⟨_, rfl⟩
    rw [← hee, ← hrs]
    have HE := Lib.hid hee
    have HS := Lib.hid hrs
    clear hee hrs
    have h01 : v = 0 ∨ v = 1 := by omega
    clear h1
    rcases h01 with h0 | h0
    · have HN : Hid ((0 : Int) = ((Oc.val (tk (Sg.o.read (Sg.i.read (Sg.q.read (Cm.zero 8, (tk bs e 1).2.1, (0 : Int))))).2.1 (Sg.o.read (Sg.i.read (Sg.q.read (Cm.zero 8, (tk bs e 1).2.1, (0 : Int))))).2.2 1).1.data.toList : Nat) : Int)) := Lib.hid (by rw [← HV.out, h0]; rfl)
      have HD : Hid (false = decide (Oc.val (tk (Sg.o.read (Sg.i.read (Sg.q.read (Cm.zero 8, (tk bs e 1).2.1, (0 : Int))))).2.1 (Sg.o.read (Sg.i.read (Sg.q.read (Cm.zero 8, (tk bs e 1).2.1, (0 : Int))))).2.2 1).1.data.toList = 1)) := Lib.hid (by rw [← HV.out, h0]; rfl)
      clear HV HW
      subst h0
      go_enter Tryz.func19, Tryz.ntmps19
      go_wp2_with (first
        | (go_at_call 41; refine (num1n HN.out b _ hR3).mono ?_; rintro x w5 ⟨rfl, hr, hu⟩; obtain ⟨⟨kc3, kf3⟩, hT4, hZ4, hM4, hR4⟩ := st_xd (T := (Sg.o.read (Sg.i.read (Sg.q.read (Cm.zero 8, (tk bs e 1).2.1, (0 : Int)))))) HD.out hT3 hZ3 hM3 rfl HLT.out hr hu; have hl := run_loadR hT4; have hst := run_storeR hZ4 (Sg.x.read (Sg.o.read (Sg.i.read (Sg.q.read (Cm.zero 8, (tk bs e 1).2.1, (0 : Int)))))).1; obtain ⟨hz1, hz2⟩ := hZ4.stored (Sg.x.read (Sg.o.read (Sg.i.read (Sg.q.read (Cm.zero 8, (tk bs e 1).2.1, (0 : Int)))))).1; have hres := run_loadR hz1)
        | (go_at_call 41; refine (num8 b _ _ _ hR2).mono ?_; rintro x w4 ⟨rfl, hr, hu⟩; obtain ⟨⟨kc2, kf2⟩, hT3, hZ3, hM3, hR3⟩ := st_o (T := (Sg.i.read (Sg.q.read (Cm.zero 8, (tk bs e 1).2.1, (0 : Int))))) hT2 hZ2 hM2 rfl HLT.out hr hu)
        | (go_at_call 41; refine (num8 b _ _ _ hR1).mono ?_; rintro x w3 ⟨rfl, hr, hu⟩; obtain ⟨⟨kc1, kf1⟩, hT2, hZ2, hM2, hR2⟩ := st_i (T := (Sg.q.read (Cm.zero 8, (tk bs e 1).2.1, (0 : Int)))) hT1 hZ1 hM1 rfl HLT.out hr hu)
        | (go_at_call 47; refine (refText_rd b _ _ 32 (by decide) _ hR0).mono ?_; rintro x w2 ⟨rfl, hr, hu⟩; obtain ⟨⟨kc0, kf0⟩, hT1, hZ1, hM1, hR1⟩ := st_q (T := (Cm.zero 8, (tk bs e 1).2.1, (0 : Int))) hT0 hZ0 hM0 rfl HLT.out hr hu)
        | (go_at_call 41; refine (HO.out).mono ?_; rintro x w1 ⟨rfl, hr1, hu1⟩; obtain ⟨kc, kf, hT0, hZ0, hM0, hR0⟩ := rr_start 8 HLT.out hr1 hu1; have hb1 := hr1.c1; have hne1 := HNE.out))
      exact bodyPost_ret_by (resR Tryz.results19 _ rfl hres) rfl ⟨rfl, (by rw [HE.out, HS.out]; exact hR4.upd hz2 (by have := HLT.out; omega)), mod_upd' hM4 (Nat.le_refl _) hz2⟩
    · have HN : Hid ((1 : Int) = ((Oc.val (tk (Sg.o.read (Sg.i.read (Sg.q.read (Cm.zero 8, (tk bs e 1).2.1, (0 : Int))))).2.1 (Sg.o.read (Sg.i.read (Sg.q.read (Cm.zero 8, (tk bs e 1).2.1, (0 : Int))))).2.2 1).1.data.toList : Nat) : Int)) := Lib.hid (by rw [← HV.out, h0]; rfl)
      have HD : Hid (true = decide (Oc.val (tk (Sg.o.read (Sg.i.read (Sg.q.read (Cm.zero 8, (tk bs e 1).2.1, (0 : Int))))).2.1 (Sg.o.read (Sg.i.read (Sg.q.read (Cm.zero 8, (tk bs e 1).2.1, (0 : Int))))).2.2 1).1.data.toList = 1)) := Lib.hid (by rw [← HV.out, h0]; rfl)
      clear HV HW
      subst h0
      go_enter Tryz.func19, Tryz.ntmps19
      go_wp2_with (first
        | (go_at_call 41; refine (num1n HN.out b _ hR3).mono ?_; rintro x w5 ⟨rfl, hr, hu⟩; obtain ⟨⟨kc3, kf3⟩, hT4, hZ4, hM4, hR4⟩ := st_xd (T := (Sg.o.read (Sg.i.read (Sg.q.read (Cm.zero 8, (tk bs e 1).2.1, (0 : Int)))))) HD.out hT3 hZ3 hM3 rfl HLT.out hr hu; have hl := run_loadR hT4; have hst := run_storeR hZ4 (Sg.x.read (Sg.o.read (Sg.i.read (Sg.q.read (Cm.zero 8, (tk bs e 1).2.1, (0 : Int)))))).1; obtain ⟨hz1, hz2⟩ := hZ4.stored (Sg.x.read (Sg.o.read (Sg.i.read (Sg.q.read (Cm.zero 8, (tk bs e 1).2.1, (0 : Int)))))).1; have hres := run_loadR hz1)
        | (go_at_call 41; refine (num8 b _ _ _ hR2).mono ?_; rintro x w4 ⟨rfl, hr, hu⟩; obtain ⟨⟨kc2, kf2⟩, hT3, hZ3, hM3, hR3⟩ := st_o (T := (Sg.i.read (Sg.q.read (Cm.zero 8, (tk bs e 1).2.1, (0 : Int))))) hT2 hZ2 hM2 rfl HLT.out hr hu)
        | (go_at_call 41; refine (num8 b _ _ _ hR1).mono ?_; rintro x w3 ⟨rfl, hr, hu⟩; obtain ⟨⟨kc1, kf1⟩, hT2, hZ2, hM2, hR2⟩ := st_i (T := (Sg.q.read (Cm.zero 8, (tk bs e 1).2.1, (0 : Int)))) hT1 hZ1 hM1 rfl HLT.out hr hu)
        | (go_at_call 47; refine (refText_rd b _ _ 32 (by decide) _ hR0).mono ?_; rintro x w2 ⟨rfl, hr, hu⟩; obtain ⟨⟨kc0, kf0⟩, hT1, hZ1, hM1, hR1⟩ := st_q (T := (Cm.zero 8, (tk bs e 1).2.1, (0 : Int))) hT0 hZ0 hM0 rfl HLT.out hr hu)
        | (go_at_call 41; refine (HO.out).mono ?_; rintro x w1 ⟨rfl, hr1, hu1⟩; obtain ⟨kc, kf, hT0, hZ0, hM0, hR0⟩ := rr_start 8 HLT.out hr1 hu1; have hb1 := hr1.c1; have hne1 := HNE.out))
      exact bodyPost_ret_by (resR Tryz.results19 _ rfl hres) rfl ⟨rfl, (by rw [HE.out, HS.out]; exact hR4.upd hz2 (by have := HLT.out; omega)), mod_upd' hM4 (Nat.le_refl _) hz2⟩
end Go.Proofs.YtoekggbbkcmknaaGreatDoor
/- The document's Read at some kinds. -/
namespace Go.Proofs.YtoekggbbkcmknaaGreatDoor
open Go.RowKit
attribute [local go_sem ↓] zeroC_eq newC_eq loadC_eq storeC_eq buildC_eq zeroR_eq newR_eq loadR_eq storeR_eq buildR_eq
attribute [local go_sem] run_zeroC run_newC run_buildC0 run_buildC1 run_neqC run_eqlC run_guardC run_zeroR run_newR run_buildR0 run_buildR1 run_neqR run_eqlR run_guardR
attribute [local go_sem ↓] bslC_eq bslR_eq
attribute [local go_sem] run_bslC run_bslR
set_option maxRecDepth 1000000
set_option maxHeartbeats 1500000 in
theorem refRead_12 (b : Nat) (bs : ByteArray) (e : Int) (w : World) (h : Rd w b bs e) (hk : Oc.val (tk bs e 1).1.data.toList = 12) (he : (tk bs e 1).2.2 = 0) :
    Calls Tryz.prog 19 #[.pointer (some ⟨b, 0, none⟩)] w fun x w' => x = .returned (readL (form 12) (Cm.zero 12, (tk bs e 1).2.1, 0)).1.agg ∧ Rd w' b (readL (form 12) (Cm.zero 12, (tk bs e 1).2.1, 0)).2.1 (readL (form 12) (Cm.zero 12, (tk bs e 1).2.1, 0)).2.2 ∧ Mod b w w' := by
  have hform : form 12 = [.q] := by decide
  rw [hform]
  simp only [readL, List.foldl_cons, List.foldl_nil]
  have HO := Lib.hid (num1 b bs e _ ((h.alloc (objR (Cm.zero 0))).alloc (objR (Cm.zero 0))))
  rw [hk, he] at HO
  have HLT := Lib.hid h.lt
  have HNE : Hid (True) := trivial
  clear h hform
  go_enter Tryz.func19, Tryz.ntmps19
  go_wp2_with (first
    | (go_at_call 47; refine (refText_rd b _ _ 32 (by decide) _ hR0).mono ?_; rintro x w2 ⟨rfl, hr, hu⟩; obtain ⟨⟨kc0, kf0⟩, hT1, hZ1, hM1, hR1⟩ := st_q (T := (Cm.zero 12, (tk bs e 1).2.1, (0 : Int))) hT0 hZ0 hM0 rfl HLT.out hr hu; have hl := run_loadR hT1; have hst := run_storeR hZ1 (Sg.q.read (Cm.zero 12, (tk bs e 1).2.1, (0 : Int))).1; obtain ⟨hz1, hz2⟩ := hZ1.stored (Sg.q.read (Cm.zero 12, (tk bs e 1).2.1, (0 : Int))).1; have hres := run_loadR hz1)
    | (go_at_call 41; refine (HO.out).mono ?_; rintro x w1 ⟨rfl, hr1, hu1⟩; obtain ⟨kc, kf, hT0, hZ0, hM0, hR0⟩ := rr_start 12 HLT.out hr1 hu1; have hb1 := hr1.c1; have hne1 := HNE.out))
  exact bodyPost_ret_by (resR Tryz.results19 _ rfl hres) rfl ⟨rfl, hR1.upd hz2 (by have := HLT.out; omega), mod_upd' hM1 (Nat.le_refl _) hz2⟩
set_option maxHeartbeats 1500000 in
theorem refRead_13 (b : Nat) (bs : ByteArray) (e : Int) (w : World) (h : Rd w b bs e) (hk : Oc.val (tk bs e 1).1.data.toList = 13) (he : (tk bs e 1).2.2 = 0) :
    Calls Tryz.prog 19 #[.pointer (some ⟨b, 0, none⟩)] w fun x w' => x = .returned (readL (form 13) (Cm.zero 13, (tk bs e 1).2.1, 0)).1.agg ∧ Rd w' b (readL (form 13) (Cm.zero 13, (tk bs e 1).2.1, 0)).2.1 (readL (form 13) (Cm.zero 13, (tk bs e 1).2.1, 0)).2.2 ∧ Mod b w w' := by
  have hform : form 13 = [.q, .i, .n] := by decide
  rw [hform]
  simp only [readL, List.foldl_cons, List.foldl_nil]
  have HO := Lib.hid (num1 b bs e _ ((h.alloc (objR (Cm.zero 0))).alloc (objR (Cm.zero 0))))
  rw [hk, he] at HO
  have HLT := Lib.hid h.lt
  have HNE : Hid (True) := trivial
  clear h hform
  go_enter Tryz.func19, Tryz.ntmps19
  go_wp2_with (first
    | (go_at_call 41; refine (num8 b _ _ _ hR2).mono ?_; rintro x w4 ⟨rfl, hr, hu⟩; obtain ⟨⟨kc2, kf2⟩, hT3, hZ3, hM3, hR3⟩ := st_n (T := (Sg.i.read (Sg.q.read (Cm.zero 13, (tk bs e 1).2.1, (0 : Int))))) hT2 hZ2 hM2 rfl HLT.out hr hu; have hl := run_loadR hT3; have hst := run_storeR hZ3 (Sg.n.read (Sg.i.read (Sg.q.read (Cm.zero 13, (tk bs e 1).2.1, (0 : Int))))).1; obtain ⟨hz1, hz2⟩ := hZ3.stored (Sg.n.read (Sg.i.read (Sg.q.read (Cm.zero 13, (tk bs e 1).2.1, (0 : Int))))).1; have hres := run_loadR hz1)
    | (go_at_call 41; refine (num8 b _ _ _ hR1).mono ?_; rintro x w3 ⟨rfl, hr, hu⟩; obtain ⟨⟨kc1, kf1⟩, hT2, hZ2, hM2, hR2⟩ := st_i (T := (Sg.q.read (Cm.zero 13, (tk bs e 1).2.1, (0 : Int)))) hT1 hZ1 hM1 rfl HLT.out hr hu)
    | (go_at_call 47; refine (refText_rd b _ _ 32 (by decide) _ hR0).mono ?_; rintro x w2 ⟨rfl, hr, hu⟩; obtain ⟨⟨kc0, kf0⟩, hT1, hZ1, hM1, hR1⟩ := st_q (T := (Cm.zero 13, (tk bs e 1).2.1, (0 : Int))) hT0 hZ0 hM0 rfl HLT.out hr hu)
    | (go_at_call 41; refine (HO.out).mono ?_; rintro x w1 ⟨rfl, hr1, hu1⟩; obtain ⟨kc, kf, hT0, hZ0, hM0, hR0⟩ := rr_start 13 HLT.out hr1 hu1; have hb1 := hr1.c1; have hne1 := HNE.out))
  exact bodyPost_ret_by (resR Tryz.results19 _ rfl hres) rfl ⟨rfl, hR3.upd hz2 (by have := HLT.out; omega), mod_upd' hM3 (Nat.le_refl _) hz2⟩
end Go.Proofs.YtoekggbbkcmknaaGreatDoor
/- The document's Read, of any bytes; its Parse. -/
namespace Go.Proofs.YtoekggbbkcmknaaGreatDoor
open Go.RowKit
attribute [local go_sem ↓] zeroC_eq newC_eq loadC_eq storeC_eq buildC_eq zeroR_eq newR_eq loadR_eq storeR_eq buildR_eq
attribute [local go_sem] run_zeroC run_newC run_buildC0 run_buildC1 run_neqC run_eqlC run_guardC run_zeroR run_newR run_buildR0 run_buildR1 run_neqR run_eqlR run_guardR
attribute [local go_sem ↓] bslC_eq bslR_eq
attribute [local go_sem] run_bslC run_bslR
set_option maxRecDepth 1000000
set_option maxHeartbeats 1500000 in
theorem refRead_any (b : Nat) (bs : ByteArray) (e : Int) (w : World) (h : Rd w b bs e) :
    Calls Tryz.prog 19 #[.pointer (some ⟨b, 0, none⟩)] w fun x w' => x = .returned (readR bs e).1.agg ∧ Rd w' b (readR bs e).2.1 (readR bs e).2.2 ∧ Mod b w w' := by
  unfold readR
  simp only
  by_cases he : (tk bs e 1).2.2 = 0
  · by_cases hk : known ((Oc.val (tk bs e 1).1.data.toList : Nat) : Int) = true
    · rw [if_pos hk, he]
      obtain ⟨h1, h2⟩ := known_iff.1 hk
      generalize hn : Oc.val (tk bs e 1).1.data.toList = n at h1 h2 hk
      have hc : n = 1 ∨ n = 2 ∨ n = 3 ∨ n = 4 ∨ n = 5 ∨ n = 6 ∨ n = 7 ∨ n = 8 ∨ n = 9 ∨ n = 10 ∨ n = 11 ∨ n = 12 ∨ n = 13 := by omega
      clear h1 h2 hk
      rcases hc with rfl | rfl | rfl | rfl | rfl | rfl | rfl | rfl | rfl | rfl | rfl | rfl | rfl
      · exact refRead_1 b bs e w h hn he
      · exact refRead_2 b bs e w h hn he
      · exact refRead_3 b bs e w h hn he
      · exact refRead_4 b bs e w h hn he
      · exact refRead_5 b bs e w h hn he
      · exact refRead_6 b bs e w h hn he
      · exact refRead_7 b bs e w h hn he
      · exact refRead_8 b bs e w h hn he
      · exact refRead_9 b bs e w h hn he
      · exact refRead_10 b bs e w h hn he
      · exact refRead_11 b bs e w h hn he
      · exact refRead_12 b bs e w h hn he
      · exact refRead_13 b bs e w h hn he
    · rw [if_neg hk, he]
      rw [if_pos rfl]
      have hv8 := vlt8 bs e
      have HO := Lib.hid (num1 b bs e _ ((h.alloc (objR (Cm.zero 0))).alloc (objR (Cm.zero 0))))
      rw [he] at HO
      have HLT := Lib.hid h.lt
      clear h he
      revert HO hk hv8
      generalize Oc.val (tk bs e 1).1.data.toList = n
      generalize (tk bs e 1).2.1 = r
      intro hk hv8 HO
      have HFL := Lib.hid (fun W (hW : Rd W b r 0) => refFail_any b r 0 11 W hW)
      rw [if_pos rfl] at HFL
      have hk2 : (n : Int) < 1 ∨ 13 < (n : Int) := by
        rcases Classical.em ((n : Int) < 1) with h | h
        · exact .inl h
        · exact .inr (by
            have : ¬ (1 ≤ (n : Int) ∧ (n : Int) ≤ 13) := fun h => hk (known_iff.2 h)
            omega)
      clear hk
      rcases Classical.em ((n : Int) < 1) with h1 | h1
      · clear hk2
        go_enter Tryz.func19, Tryz.ntmps19
        go_wp2_with (first
      | (go_at_call 42; refine (HFL.out _ hr1).mono ?_; rintro x w2 ⟨rfl, hr2, hu2⟩; have hb2 := hr2.c1; have h1 := (((BxC.newR w (Cm.zero 0)).alloc (objR (Cm.zero 0))).upd hu1 (by have := HLT.out; omega)).upd hu2 (by have := HLT.out; omega); have h2 := BxC.newR (w.alloc (objR (Cm.zero 0))) (Cm.zero 0); rw [World.size_alloc] at h2; have h3 := (h2.upd hu1 (by have := HLT.out; omega)).upd hu2 (by have := HLT.out; omega); have hl := run_loadR h3; have hst := run_storeR h1 (Cm.zero 0); obtain ⟨hz1, hz2⟩ := h1.stored (Cm.zero 0); have hres := run_loadR hz1)
      | (go_at_call 41; refine (HO.out).mono ?_; rintro x w1 ⟨rfl, hr1, hu1⟩; have hb1 := hr1.c1))
        exact bodyPost_ret_by (resR Tryz.results19 _ rfl hres) rfl ⟨rfl, hr2.upd hz2 (by have := HLT.out; omega), mod_upd' (((((Mod.refl b w).alloc _).alloc _).upd hu1).upd hu2) (Nat.le_refl _) hz2⟩
      · have h2 : 13 < (n : Int) := by omega
        have hd : decide ((n : Int) < 1) = false := decide_eq_false h1
        clear hk2
        go_enter Tryz.func19, Tryz.ntmps19
        go_wp2_with (first
      | (go_at_call 42; refine (HFL.out _ hr1).mono ?_; rintro x w2 ⟨rfl, hr2, hu2⟩; have hb2 := hr2.c1; have h1 := (((BxC.newR w (Cm.zero 0)).alloc (objR (Cm.zero 0))).upd hu1 (by have := HLT.out; omega)).upd hu2 (by have := HLT.out; omega); have h2 := BxC.newR (w.alloc (objR (Cm.zero 0))) (Cm.zero 0); rw [World.size_alloc] at h2; have h3 := (h2.upd hu1 (by have := HLT.out; omega)).upd hu2 (by have := HLT.out; omega); have hl := run_loadR h3; have hst := run_storeR h1 (Cm.zero 0); obtain ⟨hz1, hz2⟩ := h1.stored (Cm.zero 0); have hres := run_loadR hz1)
      | (go_at_call 41; refine (HO.out).mono ?_; rintro x w1 ⟨rfl, hr1, hu1⟩; have hb1 := hr1.c1))
        exact bodyPost_ret_by (resR Tryz.results19 _ rfl hres) rfl ⟨rfl, hr2.upd hz2 (by have := HLT.out; omega), mod_upd' (((((Mod.refl b w).alloc _).alloc _).upd hu1).upd hu2) (Nat.le_refl _) hz2⟩
  · have hz := tk_err bs e he
    rw [hz, if_neg (by decide), if_neg he]
    have HO := Lib.hid (num1 b bs e _ ((h.alloc (objR (Cm.zero 0))).alloc (objR (Cm.zero 0))))
    rw [hz] at HO
    have HLT := Lib.hid h.lt
    clear h hz
    revert HO he
    generalize (tk bs e 1).2.2 = e1
    generalize (tk bs e 1).2.1 = r
    intro he HO
    have hd : (e1 == 0) = false := by rw [beq_eq_false_iff_ne]; exact he
    have hd' : (e1 != 0) = true := by rw [bne_iff_ne]; exact he
    go_enter Tryz.func19, Tryz.ntmps19
    go_wp2_with (go_at_call 41; refine (HO.out).mono ?_; rintro x w1 ⟨rfl, hr1, hu1⟩; have hb1 := hr1.c1; have h1 := ((BxC.newR w (Cm.zero 0)).alloc (objR (Cm.zero 0))).upd hu1 (by have := HLT.out; omega); have h2 := BxC.newR (w.alloc (objR (Cm.zero 0))) (Cm.zero 0); rw [World.size_alloc] at h2; have h3 := h2.upd hu1 (by have := HLT.out; omega); have hl := run_loadR h3; have hst := run_storeR h1 (Cm.zero 0); obtain ⟨hz1, hz2⟩ := h1.stored (Cm.zero 0); have hres := run_loadR hz1)
    exact bodyPost_ret_by (resR Tryz.results19 _ rfl hres) rfl ⟨rfl, hr1.upd hz2 (by have := HLT.out; omega), mod_upd' ((((Mod.refl b w).alloc _).alloc _).upd hu1) (Nat.le_refl _) hz2⟩
end Go.Proofs.YtoekggbbkcmknaaGreatDoor
/- The document's Parse and ParseBatch. -/
namespace Go.Proofs.YtoekggbbkcmknaaGreatDoor
open Go.RowKit
attribute [local go_sem ↓] zeroC_eq newC_eq loadC_eq storeC_eq buildC_eq zeroR_eq newR_eq loadR_eq storeR_eq buildR_eq
attribute [local go_sem] run_zeroC run_newC run_buildC0 run_buildC1 run_neqC run_eqlC run_guardC run_zeroR run_newR run_buildR0 run_buildR1 run_neqR run_eqlR run_guardR
attribute [local go_sem ↓] bslC_eq bslR_eq
attribute [local go_sem] run_bslC run_bslR
/-- So many commands as the document's reader has them. -/
def getsD : Nat → ByteArray → Int → List Cm × ByteArray × Int
  | 0, s, e => ([], s, e)
  | k + 1, s, e => if e ≠ 0 then ([], s, e) else ((readR s e).1 :: (getsD k (readR s e).2.1 (readR s e).2.2).1, (getsD k (readR s e).2.1 (readR s e).2.2).2)
theorem getsD_bad (k : Nat) (s : ByteArray) (e : Int) (h : e ≠ 0) : getsD k s e = ([], s, e) := by
  cases k with
  | zero => rfl
  | succ k => unfold getsD; rw [if_pos h]
theorem getsD_succ (k : Nat) (s : ByteArray) : getsD (k + 1) s 0 = ((readR s 0).1 :: (getsD k (readR s 0).2.1 (readR s 0).2.2).1, (getsD k (readR s 0).2.1 (readR s 0).2.2).2) := by
  rw [getsD, if_neg (by decide)]
theorem readC_rest (s : ByteArray) (e : Int) : (readC s e).2 = (readR s e).2 := by
  unfold readC
  simp only
  split <;> rfl
theorem readC_ok (s : ByteArray) (e : Int) (h : (readR s e).2.2 = 0) : readC s e = readR s e := by
  unfold readC
  simp only
  rw [if_pos h]
theorem gets_rest : ∀ (k : Nat) (s : ByteArray) (e : Int), (getsC k s e).2 = (getsD k s e).2
  | 0, _, _ => rfl
  | k + 1, s, e => by
    by_cases h : e = 0
    · subst h
      rw [getsC_succ, getsD_succ]
      show (getsC k (readC s 0).2.1 (readC s 0).2.2).2 = _
      rw [readC_rest, gets_rest k]
    · rw [getsC_bad _ _ _ h, getsD_bad _ _ _ h]
theorem gets_ok : ∀ (k : Nat) (s : ByteArray) (e : Int), (getsD k s e).2.2 = 0 → getsC k s e = getsD k s e
  | 0, _, _, _ => rfl
  | k + 1, s, e, h => by
    by_cases h0 : e = 0
    · subst h0
      rw [getsD_succ] at h
      rw [getsC_succ, getsD_succ]
      have hr : (readR s 0).2.2 = 0 := by
        rcases Classical.em ((readR s 0).2.2 = 0) with h1 | h1
        · exact h1
        · have h2 : (getsD k (readR s 0).2.1 (readR s 0).2.2).2.2 = 0 := h
          rw [getsD_bad _ _ _ h1] at h2
          exact absurd h2 h1
      rw [readC_ok s 0 hr, gets_ok k _ _ h]
    · rw [getsC_bad _ _ _ h0, getsD_bad _ _ _ h0]
theorem fin_zero {s : ByteArray} {e : Int} (h : fin s e = 0) : e = 0 := by
  unfold fin at h
  split at h
  · rename_i h1; exact h1.1
  · exact h
def parseD (s : ByteArray) : Cm × Int :=
  let G := readR s 0
  if fin G.2.1 G.2.2 = 0 then (G.1, 0) else (Cm.zero 0, fin G.2.1 G.2.2)
theorem parse_same (s : ByteArray) : readG s = parseD s := by
  unfold readG parseD
  simp only
  have h1 : (readC s 0).2.1 = (readR s 0).2.1 := congrArg Prod.fst (readC_rest s 0)
  have h2 : (readC s 0).2.2 = (readR s 0).2.2 := congrArg Prod.snd (readC_rest s 0)
  rw [h1, h2]
  by_cases h : fin (readR s 0).2.1 (readR s 0).2.2 = 0
  · rw [if_pos h, if_pos h, readC_ok s 0 (fin_zero h)]
  · rw [if_neg h, if_neg h]
/-- What the document's ParseBatch begins with. -/
def cntD (s : ByteArray) : Nat × ByteArray × Int :=
  let T := tk s 0 4
  (Oc.val T.1.data.toList, T.2.1, if 64 < Oc.val T.1.data.toList then (if T.2.2 = 0 then 6 else T.2.2) else T.2.2)
def listD (s : ByteArray) : List Cm × Int :=
  ((getsD (cntD s).1 (cntD s).2.1 (cntD s).2.2).1, fin (getsD (cntD s).1 (cntD s).2.1 (cntD s).2.2).2.1 (getsD (cntD s).1 (cntD s).2.1 (cntD s).2.2).2.2)
theorem tk4_err (bs : ByteArray) (e : Int) (h : (tk bs e 4).2.2 ≠ 0) : Oc.val (tk bs e 4).1.data.toList = 0 := by
  unfold tk at h ⊢
  split at h
  · rename_i h1; rw [if_pos h1]; rfl
  · rename_i h1
    rw [if_neg h1]
    split at h
    · rename_i h2; rw [if_pos h2]; rfl
    · exact absurd rfl h
theorem list_err (s : ByteArray) : (listC s 64).2 = (listD s).2 := by
  unfold listC listD cntD cnt
  simp only
  have ht := tk4_err s 0
  generalize tk s 0 4 = T at ht ⊢
  generalize Oc.val T.1.data.toList = n at ht ⊢
  by_cases h : 64 < n
  · have h1 : (n : Int) > (if (0 : Int) ≤ 64 then 64 else 0) := by rw [if_pos (by decide)]; omega
    rw [if_pos h1, if_pos h]
    have h3 : (if T.2.2 = 0 then (6 : Int) else T.2.2) ≠ 0 := by split <;> omega
    show fin (getsC 0 _ _).2.1 (getsC 0 _ _).2.2 = _
    rw [getsD_bad _ _ _ h3]
    rfl
  · have h1 : ¬ (n : Int) > (if (0 : Int) ≤ 64 then 64 else 0) := by rw [if_pos (by decide)]; omega
    rw [if_neg h1, if_neg h]
    simp only
    rw [gets_rest]
theorem list_ok (s : ByteArray) (h0 : (listD s).2 = 0) : (listC s 64).1 = (listD s).1 := by
  have ht := tk4_err s 0
  unfold listC listD cntD cnt at *
  simp only at *
  generalize tk s 0 4 = T at ht h0 ⊢
  generalize Oc.val T.1.data.toList = n at ht h0 ⊢
  by_cases h : 64 < n
  · rw [if_pos h] at h0
    have h3 : (if T.2.2 = 0 then (6 : Int) else T.2.2) ≠ 0 := by split <;> omega
    rw [getsD_bad _ _ _ h3] at h0
    exact absurd (fin_zero h0) h3
  · have h1 : ¬ (n : Int) > (if (0 : Int) ≤ 64 then 64 else 0) := by rw [if_pos (by decide)]; omega
    rw [if_neg h] at h0
    rw [if_neg h1, if_neg h]
    simp only
    rw [gets_ok _ _ _ (fin_zero h0)]
theorem rdNew (w : World) (s : ByteArray) : Rd (w.alloc (.cells #[.string s, .int .i64 0] 56)) w.heap.size s 0 := by constructor <;> simp
theorem resPd {w : World} {g : Nat} {v : Value} {e : Int} {tmps : Array Value} (ht : tmps.getD 2 undef = .pointer (some ⟨g, 0, none⟩)) (h5 : tmps[3]? = some (.int .i64 e)) (hl : (loadR ⟨g, 0, none⟩).run Tryz.prog w = .ok v w) :
    (results Tryz.f14 tmps).run Tryz.prog w = .ok (.tuple #[v, .int .i64 e]) w := by
  have ht' : tmps[2]?.getD undef = .pointer (some ⟨g, 0, none⟩) := by simpa using ht
  have hl' : (loadVar 40 ⟨g, 0, none⟩).run Tryz.prog w = .ok v w := hl
  simp [results, Tryz.results14, ht', h5, asAddr, hl']
set_option maxHeartbeats 1500000 in
theorem refParse_any (s : ByteArray) (w : World) :
    Calls Tryz.prog 14 #[.string s] w fun x w' => x = .returned (.tuple #[(parseD s).1.agg, .int .i64 (parseD s).2]) ∧ Below w.heap.size w w' := by
  unfold parseD
  have HRD := Lib.hid (rdNew (w.alloc (objR (Cm.zero 0))) s)
  have HZ := Lib.hid ((BxC.newR w (Cm.zero 0)).alloc (.cells #[.string s, .int .i64 0] 56))
  have HR := Lib.hid (fun b W (hW : Rd W b s 0) => refRead_any b s 0 W hW)
  simp only
  revert HR
  generalize readR s 0 = X
  obtain ⟨xc, s1, e1⟩ := X
  intro HR
  simp only at HR ⊢
  have HE := Lib.hid (fun b W (hW : Rd W b s1 e1) => refEnd_rd b s1 e1 W hW)
  revert HE
  generalize fin s1 e1 = f
  intro HE
  rw [World.size_alloc] at HRD
  by_cases hf : f = 0
  · subst hf
    rw [if_pos rfl]
    go_enter Tryz.func14, Tryz.ntmps14
    go_wp2_with (first
      | (go_at_call 19; refine (HR.out _ _ HRD.out).mono ?_; rintro x w1 ⟨rfl, hr1, hm1⟩; have hz := (HZ.out.mod hm1 (by omega)).alloc (objR (Cm.zero 0)); have hn := BxC.newR w1 (Cm.zero 0); have hst1 := run_storeR hn xc; obtain ⟨hn2, hu2⟩ := hn.stored xc; have hr2 := (hr1.alloc (objR (Cm.zero 0))).upd hu2 (by have := hr1.lt; omega); have hz2 := hz.upd hu2 (by have := hr1.lt; omega); have hl := run_loadR hn2; have hst2 := run_storeR hz2 xc; obtain ⟨hz3, hu3⟩ := hz2.stored xc; have hres := run_loadR hz3)
      | (go_at_call 39; refine (HE.out _ _ hr2).mono ?_; rintro x w2 ⟨rfl, rfl⟩))
    have hB1 : Below w.heap.size w w1 := (((Below.refl _ _).alloc (Nat.le_refl _) _).alloc (by simp) _).trans (hm1.below (by omega) (by simp; omega))
    exact bodyPost_ret_by (resPd rfl rfl hres) rfl ⟨rfl, ((hB1.alloc hB1.size _).trans (hu2.below hB1.size)).trans (hu3.below (Nat.le_refl _))⟩
  · have hf' : (f != 0) = true := by rw [bne_iff_ne]; exact hf
    rw [if_neg hf]
    go_enter Tryz.func14, Tryz.ntmps14
    go_wp2_with (first
      | (go_at_call 19; refine (HR.out _ _ HRD.out).mono ?_; rintro x w1 ⟨rfl, hr1, hm1⟩; have hz := (HZ.out.mod hm1 (by omega)).alloc (objR (Cm.zero 0)); have hn := BxC.newR w1 (Cm.zero 0); have hst1 := run_storeR hn xc; obtain ⟨hn2, hu2⟩ := hn.stored xc; have hr2 := (hr1.alloc (objR (Cm.zero 0))).upd hu2 (by have := hr1.lt; omega); have hz2 := hz.upd hu2 (by have := hr1.lt; omega); have hl := run_loadR hn2; have hst2 := run_storeR hz2 (Cm.zero 0); obtain ⟨hz3, hu3⟩ := hz2.stored (Cm.zero 0); have hres := run_loadR hz3)
      | (go_at_call 39; refine (HE.out _ _ hr2).mono ?_; rintro x w2 ⟨rfl, rfl⟩))
    have hB1 : Below w.heap.size w w1 := (((Below.refl _ _).alloc (Nat.le_refl _) _).alloc (by simp) _).trans (hm1.below (by omega) (by simp; omega))
    exact bodyPost_ret_by (resPd rfl rfl hres) rfl ⟨rfl, ((hB1.alloc hB1.size _).trans (hu2.below hB1.size)).trans (hu3.below (Nat.le_refl _))⟩
end Go.Proofs.YtoekggbbkcmknaaGreatDoor
/- The document's ParseBatch. -/
namespace Go.Proofs.YtoekggbbkcmknaaGreatDoor
open Go.RowKit
attribute [local go_sem ↓] zeroC_eq newC_eq loadC_eq storeC_eq buildC_eq zeroR_eq newR_eq loadR_eq storeR_eq buildR_eq
attribute [local go_sem] run_zeroC run_newC run_buildC0 run_buildC1 run_neqC run_eqlC run_guardC run_zeroR run_newR run_buildR0 run_buildR1 run_neqR run_eqlR run_guardR
attribute [local go_sem ↓] bslC_eq bslR_eq
attribute [local go_sem] run_bslC run_bslR
inductive ListOutD (s : ByteArray) (w : World) (e : Ending) (w' : World) : Prop
  | ok (h0 : (listD s).2 = 0) (v : Value) (he : e = .returned (.tuple #[v, .int .i64 0])) (hs : SlG Cm.vals 18 w' v (listD s).1) (hb : Below w.heap.size w w')
  | bad (h0 : (listD s).2 ≠ 0) (he : e = .returned (.tuple #[.slice none 0 0, .int .i64 (listD s).2])) (hb : Below w.heap.size w w')
set_option maxRecDepth 1000000
set_option maxHeartbeats 1000000 in
theorem refParseBatch_any (s : ByteArray) (w : World) :
    Calls Tryz.prog 16 #[.string s] w fun e w' => ListOutD s w e w' := by
  have HRD := Lib.hid (rdNew w s)
  have HC := Lib.hid (num4 _ s 0 _ HRD.out)
  have hvn := vlt32 s 0
  have HB0 := Lib.hid ((Below.refl w.heap.size w).alloc (Nat.le_refl _) (.cells #[.string s, .int .i64 0] 56))
  have HX : Hid (listD s = ((getsD (cntD s).1 (cntD s).2.1 (cntD s).2.2).1, fin (getsD (cntD s).1 (cntD s).2.1 (cntD s).2.2).2.1 (getsD (cntD s).1 (cntD s).2.1 (cntD s).2.2).2.2)) := rfl
  unfold cntD at HX
  simp only at HX
  revert HC HX hvn
  generalize tk s 0 4 = T
  obtain ⟨tb, s1, e0⟩ := T
  simp only
  generalize Oc.val tb.data.toList = N
  intro HC hvn HX
  by_cases h64 : 64 < N
  · have hg : (64 : Int) < (N : Int) := by omega
    have HFL := Lib.hid (fun W (hW : Rd W w.heap.size s1 e0) => refFail_any w.heap.size s1 e0 6 W hW)
    rw [if_pos h64] at HX
    generalize hx : (if e0 = 0 then (6 : Int) else e0) = e1 at HX HFL
    have he1 : e1 ≠ 0 := by rw [← hx]; split <;> omega
    clear hx h64
    rw [getsD_bad _ _ _ he1] at HX
    have hbad : (e1 == 0) = false := by rw [beq_eq_false_iff_ne]; exact he1
    have hfin : fin s1 e1 = e1 := by unfold fin; rw [if_neg (fun h => he1 h.1)]
    have HXE : Hid ((listD s).2 = e1) := by show _ = _; rw [HX.out]; exact hfin
    have hnz : (e1 != 0) = true := by rw [bne_iff_ne]; exact he1
    go_enter Tryz.func16, Tryz.ntmps16
    go_wp2_with (first
      | (go_at_call 42; refine (HFL.out _ hr1).mono ?_; rintro x w2 ⟨rfl, hr2, hu2⟩)
      | (go_at_call 41; refine (HC.out).mono ?_; rintro x w1 ⟨rfl, hr1, hu1⟩))
    have hb2 := hr2.c1
    have HR2 := Lib.hid hr2
    have HE := Lib.hid (refEnd_rd w.heap.size s1 e1 w2 hr2)
    rw [hfin] at HE
    have HBB := Lib.hid ((HB0.out.trans (hu1.below (Nat.le_refl _))).trans (hu2.below (Nat.le_refl _)))
    have HNE := Lib.hid he1
    clear hr1 hr2 hu1 hu2 he1 hfin
    go_loopg [6, 7] 0 (fun g v i wr => v = .slice none 0 0 ∧ i = .int .u64 0 ∧ wr = w2)
    case atStart => exact ⟨rfl, rfl, rfl⟩
    case round =>
      obtain ⟨rfl, rfl, rfl⟩ := hrel
      have hp : (0 : Int) < (N : Int) := by omega
      clear hg hvn
      go_wp2_with (go_at_call 39; refine HE.out.mono ?_; rintro x w4 ⟨rfl, rfl⟩)
      all_goals first
        | (go_ret2; exact .bad (by rw [HXE.out]; exact HNE.out) (by rw [HXE.out]; rfl) HBB.out)
        | trace_state
  · rw [if_neg h64] at HX
    have hg : decide ((64 : Int) < (N : Int)) = false := decide_eq_false (by omega)
    have HN64 := Lib.hid (show N ≤ 64 by omega)
    clear h64
    go_enter Tryz.func16, Tryz.ntmps16
    go_wp2_with (go_at_call 41; refine (HC.out).mono ?_; rintro x w1 ⟨rfl, hr1, hu1⟩)
    have HD2 := Lib.hid hr1
    have HB2 := Lib.hid (HB0.out.trans (hu1.below (Nat.le_refl _)))
    have HLT := Lib.hid hr1.lt
    clear hr1 hu1
    go_loopg [6, 7] N (fun g v i wr => ∃ (k : Nat) (l : List Cm) (t : ByteArray) (f : Int), k ≤ N ∧ g = N - k ∧ i = .int .u64 k ∧ l.length = k ∧
      Hid (getsD N s1 e0 = (l ++ (getsD (N - k) t f).1, (getsD (N - k) t f).2)) ∧ Hid (Rd wr w.heap.size t f) ∧
      Hid (RowG Cm.vals 18 40 wr w1.heap.size v l) ∧ Hid (Below w.heap.size w wr) ∧ Hid (w1.heap.size ≤ wr.heap.size))
    case atStart => exact ⟨0, [], s1, e0, Nat.zero_le _, rfl, rfl, rfl, rfl, HD2.out, RowG.nil _ _ _ _ _, HB2.out, Nat.le_refl _⟩
    case round =>
      obtain ⟨k, l, t, f, hk, rfl, rfl, rfl, HGE, HRd, HO, HB, HS⟩ := hrel
      have hb := HRd.out.c1
      by_cases hgo : l.length < N ∧ f = 0
      · obtain ⟨hlt, rfl⟩ := hgo
        rw [show N - l.length = N - (l.length + 1) + 1 by omega, getsD_succ] at HGE
        have HGT := Lib.hid (fun W (hW : Rd W w.heap.size t 0) => refRead_any w.heap.size t 0 W hW)
        revert HGT HGE
        generalize readR t 0 = X
        obtain ⟨xc, t', f'⟩ := X
        intro HGE HGT
        simp only at HGT HGE
        go_wp2_with (first
          | (go_at_call 19; refine (HGT.out _ HRd.out).mono ?_; rintro e w3 ⟨rfl, hr3, hm3⟩)
          | (at_builtin; obtain ⟨v', w4, hrun, hO4, hgrow, hB34, _⟩ := app1 (W := w3) encV appR (by decide) _ xc 0 (Nat.le_trans HS.out hm3.size) (RowG.mod HO.out hm3 HLT.out) (by have := HN64.out; omega) (Cm.vals xc).toArray rfl _ rfl; refine Lib.wpList_append_run _ rfl _ _ _ _ rfl _ _ rfl rfl _ _ hrun ?_; have HK := Lib.hid (And.intro hO4 hB34)))
        have hB4 : Below w1.heap.size w3 w4 := HK.out.2
        have hs3 : w1.heap.size ≤ w3.heap.size := Nat.le_trans HS.out hm3.size
        have HO4 := Lib.hid HK.out.1
        have HB34 := Lib.hid hB4
        have HB3 : Hid (Below w.heap.size w w3) := HB.out.trans (hm3.below (Nat.le_refl _) HB.out.size)
        have HD4 : Hid (Rd w4 w.heap.size t' f') := hr3.below' HB34.out HLT.out
        clear hB4 hgrow hm3 hr3 hrun hO4 hB34
        go_wp2
        go_roundg (N - (l.length + 1))
        case measure => omega
        case rel =>
          have hN := HN64.out
          refine ⟨l.length + 1, l ++ [xc], t', f', by omega, rfl, by go_num, by simp, ?_, HD4, HO4, HB3.out.trans (HB34.out.mono HB2.out.size), Nat.le_trans hs3 HB34.out.size⟩
          show _ = _
          rw [HGE.out]
          simp
      · have HEQ : Hid (getsD N s1 e0 = (l, t, f)) := by
          show _ = _
          rw [HGE.out]
          by_cases hf : f = 0
          · obtain hk0 : N - l.length = 0 := by have := fun h => hgo ⟨h, hf⟩; omega
            rw [hk0]; simp [getsD]
          · rw [getsD_bad _ _ _ hf]; simp
        have HXE : Hid (listD s = (l, fin t f)) := by
          show _ = _
          rw [HX.out, HEQ.out]
        have HFT := Lib.hid (fun W (hW : Rd W w.heap.size t f) => refEnd_rd w.heap.size t f W hW)
        clear HGE
        obtain ⟨a1, c1, rfl⟩ := RowG.slice HO.out
        by_cases hlt : l.length < N
        · have hf : f ≠ 0 := fun h => hgo ⟨hlt, h⟩
          have hf' : (f == 0) = false := by rw [beq_eq_false_iff_ne]; exact hf
          by_cases hz : fin t f = 0
          · exact absurd (fin_zero hz) hf
          · have hz' : (fin t f != 0) = true := by rw [bne_iff_ne]; exact hz
            revert HFT HXE hz hz'
            generalize fin t f = z
            intro HXE HFT hz hz'
            go_wp2_with (go_at_call 39; refine (HFT.out _ HRd.out).mono ?_; rintro e w4 ⟨rfl, rfl⟩)
            go_ret2
            exact .bad (by rw [HXE.out]; exact hz) (by rw [HXE.out]; rfl) HB.out
        · by_cases hz : fin t f = 0
          · rw [hz] at HXE HFT
            go_wp2_with (go_at_call 39; refine (HFT.out _ HRd.out).mono ?_; rintro e w4 ⟨rfl, rfl⟩)
            go_ret2
            exact .ok (by rw [HXE.out]) _ rfl (by rw [HXE.out]; exact RowG.sl encV HO.out) HB.out
          · have hz' : (fin t f != 0) = true := by rw [bne_iff_ne]; exact hz
            revert HFT HXE hz hz'
            generalize fin t f = z
            intro HXE HFT hz hz'
            go_wp2_with (go_at_call 39; refine (HFT.out _ HRd.out).mono ?_; rintro e w4 ⟨rfl, rfl⟩)
            go_ret2
            exact .bad (by rw [HXE.out]; exact hz) (by rw [HXE.out]; rfl) HB.out
end Go.Proofs.YtoekggbbkcmknaaGreatDoor
/- Rows of pairs in memory; the contract of List. -/
namespace Go.Proofs.YtoekggbbkcmknaaGreatDoor
open Go.RowKit
def SlR (w : World) (v : Value) (l : List Pr) : Prop :=
  ∃ (a : Option Addr) (b o c : Nat), v = .slice a l.length c ∧ (l = [] ∨ a = some ⟨b, o, none⟩) ∧
    ∀ (j : Nat) p, l[j]? = some p → w.cell? ⟨b, o + j * 2, none⟩ = some (.int .u16 p.n) ∧ w.cell? ⟨b, o + j * 2 + 1, none⟩ = some (.string (str p.s))
theorem SlR.below {w w' : World} {v : Value} {l : List Pr} (h : SlR w v l) (hb : Below w.heap.size w w') : SlR w' v l := by
  obtain ⟨a, b, o, c, hv, ha, hx⟩ := h
  refine ⟨a, b, o, c, hv, ha, fun j p hj => ?_⟩
  obtain ⟨h0, h1⟩ := hx j p hj
  have hlt := World.block_lt_of_cell? _ _ h0
  exact ⟨(hb.cell (p := ⟨b, o + j * 2, none⟩) hlt).trans h0, (hb.cell (p := ⟨b, o + j * 2 + 1, none⟩) hlt).trans h1⟩
theorem builder_below {w w' : World} {B B' b : Nat} {bs : List Value} (h : Lib.IsBuilder 77 5 B b bs w) (hb : Below B' w w') (hB : w.heap.size ≤ B') : Lib.IsBuilder 77 5 B b bs w' := by
  have go : ∀ p, Lib.BuilderAt 77 5 B b p bs w → Lib.BuilderAt 77 5 B b p bs w' := by
    rintro p ⟨h1, v, h2, h3, h4⟩
    have hlt : b < w.heap.size := by
      rcases Nat.lt_or_ge b w.heap.size with h' | h'
      · exact h'
      · rw [Array.getElem?_eq_none h'] at h2; cases h2
    exact ⟨h1, v, by rw [hb.block b (by omega), h2], own_below h3 hb hB, h4⟩
  rcases h with h | h
  · exact .inl (go _ h)
  · exact .inr (go _ h)
theorem builder_new (w : World) : Lib.IsBuilder 77 5 w.heap.size w.heap.size [] (w.alloc (.cells #[.pointer none, .slice none 0 0] 77)) := by
  refine .inl ⟨Nat.le_refl _, .slice none 0 0, ?_, World.ownsRow_nil _ _ _ _, fun h => by cases h⟩
  show (w.heap.push _)[w.heap.size]? = _
  simp
theorem builder2 (w : World) (o1 : Obj) : Lib.IsBuilder 77 5 (w.heap.size + 1) (w.heap.size + 1) [] ((w.alloc o1).alloc (.cells #[.pointer none, .slice none 0 0] 77)) := by
  have := builder_new (w.alloc o1)
  rwa [show (w.alloc o1).heap.size = w.heap.size + 1 by simp] at this
theorem box2 (w : World) (a b : Value) (T U : TypeId) (o : Obj) : ((w.alloc (.cells #[a, b] T)).alloc o).cell? ⟨w.heap.size, 0, none⟩ = some a ∧ ((w.alloc (.cells #[a, b] T)).alloc o).cell? ⟨w.heap.size, 1, none⟩ = some b ∧ U = U := by
  refine ⟨?_, ?_, rfl⟩ <;> simp
theorem strCells_str (l : List UInt8) : Lib.strCells (str l) = Lib.byteCells l := rfl
def encs (l : List Pr) : List UInt8 := Oc.big 4 l.length ++ l.flatMap enc
theorem enc_len (p : Pr) : (enc p).length = 6 + p.s.length := by
  unfold enc
  rw [List.length_append, List.length_append, Oc.big_length, Oc.big_length]
  omega
theorem byteCells_app (l m : List UInt8) : Lib.byteCells l ++ Lib.byteCells m = Lib.byteCells (l ++ m) := by simp [Lib.byteCells]
theorem byteCells_len (l : List UInt8) : (Lib.byteCells l).length = l.length := by simp [Lib.byteCells]
theorem encs_len (l : List Pr) (hs : ∀ p ∈ l, p.s.length ≤ 200) : (l.flatMap enc).length ≤ 206 * l.length := by
  induction l with
  | nil => exact Nat.zero_le _
  | cons p l ih =>
    rw [List.flatMap_cons, List.length_append, enc_len, List.length_cons]
    have h1 := hs p (by simp)
    have h2 := ih (fun q hq => hs q (by simp [hq]))
    omega
theorem encs_snoc (l : List Pr) (k : Nat) (p : Pr) (h : l[k]? = some p) : (l.take (k + 1)).flatMap enc = (l.take k).flatMap enc ++ enc p := by
  obtain ⟨hk, he⟩ := List.getElem?_eq_some_iff.1 h
  rw [List.take_succ_eq_append_getElem hk, List.flatMap_append, he]
  simp
end Go.Proofs.YtoekggbbkcmknaaGreatDoor
