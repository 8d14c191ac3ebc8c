/- Texts of one seat, merged. -/
import Derived.Test.YtnhbdonffomibaaGreatT06
import Derived.Test.YtnhbdonffomibaaGreatT09
import Derived.Deep.RegionWith
import Derived.StillTailTactics
import Derived.BigQuiet
import Derived.Test.YtnhbdonffomibaaGreatT04
import Derived.SliceStrings
import Derived.ChangeSlices
import Derived.WalkKit
import Derived.ProofKit
import Derived.OpenShut
set_option maxRecDepth 100000
set_option maxHeartbeats 4000000
set_option linter.unusedVariables false
/- PoolTexts: the law's walk. -/
namespace Go.Proofs.YtnhbdonffomibaaGreat
open Go.RowKit Go.Sort
open Tx (Rise Ord above)
theorem sortedVals_any (a : Option Addr) (c Bx : Nat) (l : List Txt) (hl : l.length ≤ 100000) (w : World) (hs : SlS w (.slice a l.length c) l) (hb : w.cell? ⟨Bx, 0, none⟩ = some (.slice a l.length c)) :
    Calls Tryz.prog 6 #[.func (.func 20) #[] #[.pointer (some ⟨Bx, 0, none⟩)]] w fun e w' => ∃ v, e = .returned v ∧ RowS w' w.heap.size v (srt l) ∧ RowKit.Below w.heap.size w w' := by
  have hlt := World.block_lt_of_cell? _ _ hb
  obtain ⟨a', b, o, c', he, ha, hx⟩ := hs
  cases he
  by_cases h0 : l = []
  · subst h0
    exact sxSorted_any 20 #[.pointer (some ⟨Bx, 0, none⟩)] [] (by simp) w (fun _ W => W.cell? ⟨Bx, 0, none⟩ = some (.slice a 0 c)) (fun n hn => vals1_nil n hn Bx a c) (fun args w => by kernel_rfl)
      (fun pre W hB => (hB.cell (p := ⟨Bx, 0, none⟩) hlt).trans hb)
  · obtain rfl := ha.resolve_left h0
    exact sxSorted_any 20 #[.pointer (some ⟨Bx, 0, none⟩)] l hl w (fun _ W => W.cell? ⟨Bx, 0, none⟩ = some (.slice (some ⟨b, o, none⟩) l.length c) ∧ ∀ (j : Nat) x, l[j]? = some x → W.cell? ⟨b, o + j, none⟩ = some (eS x))
      (fun n hn => vals1_in n hn Bx b o c l hl) (fun args w => by kernel_rfl)
      (fun pre W hB => ⟨(hB.cell (p := ⟨Bx, 0, none⟩) hlt).trans hb, fun j x hj => (hB.cell (p := ⟨b, o + j, none⟩) (World.block_lt_of_cell? _ _ (hx j x hj))).trans (hx j x hj)⟩)
/-- The law's three boxes. -/
structure B3 (w : World) (b : Nat) (add rem : Txt) (ak : Nat) : Prop where
  c5 : w.cell? ⟨b, 0, none⟩ = some (.string (str add))
  c6 : w.cell? ⟨b + 1, 0, none⟩ = some (.string (str rem))
  c7 : w.cell? ⟨b + 2, 0, none⟩ = some (.int .u8 ak)
theorem B3.keep {w w' : World} {b : Nat} {add rem : Txt} {ak : Nat} (h : B3 w b add rem ak) (hk : ∀ k, b ≤ k → k ≤ b + 2 → w'.heap[k]? = w.heap[k]?) : B3 w' b add rem ak :=
  ⟨(cell_same (hk b (Nat.le_refl _) (by omega)) 0).trans h.c5, (cell_same (hk (b + 1) (by omega) (by omega)) 0).trans h.c6, (cell_same (hk (b + 2) (by omega) (by omega)) 0).trans h.c7⟩
theorem b3_new (W : World) (add rem : Txt) (ak : Nat) (t0 t1 t2 : TypeId) : B3 (((W.alloc (.cells #[.string (str add)] t0)).alloc (.cells #[.string (str rem)] t1)).alloc (.cells #[.int .u8 ak] t2)) W.heap.size add rem ak ∧ RowKit.Below W.heap.size W (((W.alloc (.cells #[.string (str add)] t0)).alloc (.cells #[.string (str rem)] t1)).alloc (.cells #[.int .u8 ak] t2)) ∧ (((W.alloc (.cells #[.string (str add)] t0)).alloc (.cells #[.string (str rem)] t1)).alloc (.cells #[.int .u8 ak] t2)).heap.size = W.heap.size + 3 := by
  refine ⟨⟨?_, ?_, ?_⟩, (((RowKit.Below.refl _ _).alloc (Nat.le_refl _) _).alloc (by simp) _).alloc (by simp; omega) _, by simp⟩
  · refine (cell_same ((RowKit.Below.heap_alloc _ _ _ (by simp; omega)).trans (RowKit.Below.heap_alloc _ _ _ (by simp))) 0).trans (World.cell?_alloc_new W _ _ 0)
  · have := World.cell?_alloc_new (W.alloc (.cells #[.string (str add)] t0)) #[.string (str rem)] t1 0
    rw [World.size_alloc] at this
    exact (cell_same (RowKit.Below.heap_alloc _ _ _ (by simp)) 0).trans this
  · have := World.cell?_alloc_new ((W.alloc (.cells #[.string (str add)] t0)).alloc (.cells #[.string (str rem)] t1)) #[.int .u8 ak] t2 0
    rw [World.size_alloc, World.size_alloc] at this
    exact this
attribute [local go_sem] Oper.semAt_some
set_option maxHeartbeats 8000000 in
theorem texts_walk (v0 : Value) (l : List Txt) (add rem : Txt) (ak : Nat) (hak : ak < 256) (W : World) (hs : SlS W v0 l) :
    Calls Tryz.prog 3 #[v0, .string (str add), .string (str rem), .int .u8 ak] W fun e W' => e = .returned (.bool true) ∧ RowKit.Below W.heap.size W W' := by
  have HS := Lib.hid hs
  obtain ⟨a, c, rfl⟩ := hs.slice
  clear hs
  have H3 := Lib.hid (fun t0 t1 t2 => b3_new W add rem ak t0 t1 t2)
  obtain ⟨i0, hi, hz0, hz1, hz2⟩ := info_parts infoS
  by_cases h60 : l.length ≤ 60
  · have i60 : ¬ (60 : Int) < (l.length : Int) := by omega
    refine (callsIn_wide (n := 8)).1 (callsIn_of_wp_marks Tryz.func3 rfl trivial ?_ rfl)
    simp only [Tryz.ntmps3, List.size_toArray, List.length_cons, List.length_nil, Nat.reduceAdd, Nat.reduceSub, Array.replicate_succ, Array.replicate_zero, List.push_toArray, List.append_toArray, List.nil_append, List.cons_append]
    refine (wpIn_wide (n := 8)).2 ?_
    obtain ⟨Q, hQ⟩ : ∃ Q, Q = bodyPostM WF 8 Tryz.prog Tryz.f3 (fun e W' => e = .returned (.bool true) ∧ RowKit.Below W.heap.size W W') := ⟨_, rfl⟩
    rw [← hQ]
    have HQ := Lib.hid hQ
    clear hQ
    go_upto_region 5 with (go_at_call 4; (with_reducible refine (plawake_any _).mono ?_); rintro e w1 ⟨rfl, hb1⟩; have HB1 := Lib.hid hb1; clear hb1)
    have HX1 : Hid (B3 w1 W.heap.size add rem ak ∧ RowKit.Below W.heap.size W w1 ∧ W.heap.size + 3 ≤ w1.heap.size) := by
      obtain ⟨h1, h2, h3⟩ := H3.out _ _ _
      have hb := HB1.out
      have hz := hb.size
      rw [h3] at hb hz
      exact ⟨h1.keep (fun k _ hk => hb.block k (by omega)), h2.trans (hb.mono (by omega)), hz⟩
    clear HB1 H3
    have HSO : Hid (∀ T Wx, Wx = w1.alloc (.cells #[.slice a l.length c] T) → Calls Tryz.prog 6 #[.func (.func 20) #[] #[.pointer (some ⟨w1.heap.size, 0, none⟩)]] Wx fun e w' => ∃ v, e = .returned v ∧ RowS w' (w1.heap.size + 1) v (srt l) ∧ RowKit.Below w1.heap.size w1 w') := by
      rintro T Wx rfl
      have hb : RowKit.Below w1.heap.size w1 (w1.alloc (.cells #[.slice a l.length c] T)) := (RowKit.Below.refl _ _).alloc (Nat.le_refl _) _
      have := sortedVals_any a c w1.heap.size l (by omega) (w1.alloc (.cells #[.slice a l.length c] T)) ((HS.out.below rfl HX1.out.2.1).below rfl hb) (World.cell?_alloc_new w1 _ _ 0)
      rw [World.size_alloc] at this
      exact this.mono fun e w' ⟨v, h1, h2, h3⟩ => ⟨v, h1, h2, hb.trans (h3.mono (by omega))⟩
    go_upto_region 6 with (first
      | (go_at_call 7; (with_reducible refine (sxVals_any _ _ _ _).mono ?_); rintro e w2 ⟨rfl, rfl⟩)
      | (go_at_call 6; (with_reducible refine (HSO.out _ _ rfl).mono ?_); rintro e w3 ⟨v3, rfl, hr3, hb3⟩; have HR3 := Lib.hid hr3; have HB3 := Lib.hid hb3; obtain ⟨a3, c3, rfl⟩ := hr3.slice; clear hr3 hb3)
      | (go_at_call 5; (with_reducible refine (sxCpt_any _ (srt l) (by rw [srt_len]; omega) (w1.heap.size + 1) _ HR3.out).mono ?_); rintro e w4 ⟨v4, rfl, hr4, hb4⟩; have HR4 := Lib.hid hr4; have HB4 := Lib.hid hb4; obtain ⟨a4, c4, rfl⟩ := hr4.slice; clear hr4 hb4))
    have HF1 : Hid (SlS w1 (.slice a l.length c) l) := HS.out.below rfl HX1.out.2.1
    have HX4 : Hid (B3 w4 W.heap.size add rem ak ∧ RowKit.Below W.heap.size W w4 ∧ w1.heap.size ≤ w4.heap.size) := by
      obtain ⟨h1, h2, h3⟩ := HX1.out
      have hb : RowKit.Below w1.heap.size w1 w4 := HB3.out.trans (HB4.out.mono (by omega))
      exact ⟨h1.keep (fun k _ hk => hb.block k (by omega)), h2.trans (hb.mono (by omega)), hb.size⟩
    have HF4 : Hid (SlS w4 (.slice a l.length c) l) := HF1.out.below rfl (HB3.out.trans (HB4.out.mono (by omega)))
    have HZ1 := Lib.hid HX1.out.2.2
    obtain ⟨want, hwant⟩ : ∃ want, want = Tx.cmpn (srt l) (srt l).length := ⟨_, rfl⟩
    have HWA : Hid (want = dd l) := hwant
    rw [← hwant] at HR4 ⊢
    clear HB3 HB4 HR3 HX1 HSO HF1 hwant
    have HOF := Lib.hid (sxOf_any (.slice a l.length c) l (by omega) w4 HF4.out)
    go_wp2_with (first
      | (go_at_call 8; (with_reducible refine HOF.out.mono ?_); rintro e w5 ⟨p, vS, rfl, hp, hs5, hb5⟩; have HS5 := Lib.hid hs5; have HB5 := Lib.hid hb5; have HP5 := Lib.hid hp; clear hs5 hb5 hp)
      | (go_at_call 9; (with_reducible refine (sxAll_any _ _).mono ?_); rintro e w7 ⟨rfl, hk7, hb7⟩; have HK7 := Lib.hid hk7; have HB7 := Lib.hid hb7; clear hk7 hb7))
    obtain ⟨k, hk⟩ : ∃ k, k = ak % 60 := ⟨_, rfl⟩
    have HK := Lib.hid hk
    have H7 : Hid (LC w7 p (w5.heap.size + 1) vS ∧ LP w7 p (w5.heap.size + 1) w4.heap.size vS [] want (.slice none 0 0) vS w7 ∧ (∀ pre L vg vs W', LP w7 p (w5.heap.size + 1) w4.heap.size vS pre L vg vs W' → B3 W' W.heap.size add rem ak ∧ W'.cell? ⟨w5.heap.size, 0, none⟩ = some (.pointer (some ⟨p, 0, none⟩)) ∧ Asks W' p (w5.heap.size + 1 + 1) (w5.heap.size + 1 + 1 + 1) ∧ RowS W' (w1.heap.size + 1) (.slice a4 want.length c4) want ∧ RowKit.Below W.heap.size W W') ∧ w5.heap.size + 2 ≤ w7.heap.size) := by
      have hb7 := HB7.out
      have hk7 := HK7.out
      simp only [World.size_alloc] at hb7 hk7
      have z7 := hb7.size
      simp only [World.size_alloc] at z7
      obtain ⟨x1, x2, x3⟩ := HX4.out
      have x4 := HP5.out
      have x5 := HB5.out.size
      have sp := HS5.out.blt
      have sv : ∀ g, vS.ownBlock = some g → w4.heap.size ≤ g ∧ g < w5.heap.size := fun g hg => ⟨(HS5.out.row.lt hg).2, (HS5.out.row.lt hg).1⟩
      have rw4 : ∀ g, (Value.slice a4 want.length c4).ownBlock = some g → w1.heap.size + 1 ≤ g ∧ g < w4.heap.size := fun g hg => ⟨(HR4.out.lt hg).2, (HR4.out.lt hg).1⟩
      have x6 := HZ1.out
      have ka : ∀ k, k < w5.heap.size → w7.heap[k]? = w5.heap[k]? := fun k hk => (hb7.block k (by omega)).trans ((RowKit.Below.heap_alloc _ _ _ (by simp; omega)).trans (RowKit.Below.heap_alloc _ _ _ hk))
      have ka4 : ∀ k, k < w4.heap.size → w7.heap[k]? = w4.heap[k]? := fun k hk => (ka k (by omega)).trans (HB5.out.block k hk)
      have c10 : w7.cell? ⟨w5.heap.size, 0, none⟩ = some (.pointer (some ⟨p, 0, none⟩)) := (cell_same ((hb7.block w5.heap.size (by omega)).trans (RowKit.Below.heap_alloc _ _ _ (by simp))) 0).trans (World.cell?_alloc_new w5 _ _ 0)
      have hq11 : (w7.cell? ⟨w5.heap.size + 1, 0, none⟩ = some (.slice none 0 0)) ∧ w7.frozen? ⟨w5.heap.size + 1, 0, none⟩ = false := by
        have e := hb7.block (w5.heap.size + 1) (by omega)
        have h1 := World.cell?_alloc_new (w5.alloc (.cells #[.pointer (some ⟨p, 0, none⟩)] 29)) #[.slice none 0 0] 22 0
        have h2 := World.frozen?_alloc_new (w5.alloc (.cells #[.pointer (some ⟨p, 0, none⟩)] 29)) #[.slice none 0 0] 22 0
        rw [World.size_alloc] at h1 h2
        exact ⟨(cell_same e 0).trans h1, (frozen_same e 0).trans h2⟩
      have hB7 : RowKit.Below W.heap.size W w7 := by
        refine x2.trans ⟨?_, ?_, ?_, by omega, fun k hk => ka4 k (by omega)⟩
        · exact hb7.os.trans HB5.out.os
        · exact hb7.tape.trans HB5.out.tape
        · exact hb7.output.trans HB5.out.output
      have hC : LC w7 p (w5.heap.size + 1) vS := ⟨by omega, by omega, by omega, fun e => by have := sv _ e; omega⟩
      have hL0 : LP w7 p (w5.heap.size + 1) w4.heap.size vS [] want (.slice none 0 0) vS w7 := by
        refine ⟨Nat.le_refl _, rfl, rfl, rfl, fun _ _ _ _ _ => rfl, hq11.1, hq11.2, RowP.nil _ _ _ _, ?_, .inl rfl, fun g hg => by cases hg⟩
        rw [HWA.out]
        exact HS5.out.keep (ka p sp) (fun g hg => ka g (sv g hg).2)
      refine ⟨hC, hL0, fun pre L vg vs W' h => ?_, by omega⟩
      have hkk : ∀ k, k < w7.heap.size → k ≠ p → k ≠ w5.heap.size + 1 → vS.ownBlock ≠ some k → W'.heap[k]? = w7.heap[k]? := h.keep
      have k4 : ∀ k, k < w4.heap.size → W'.heap[k]? = w4.heap[k]? := fun k hk => (hkk k (by omega) (by omega) (by omega) (fun e => by have := sv _ e; omega)).trans (ka4 k hk)
      refine ⟨x1.keep (fun k _ hk => k4 k (by omega)), (cell_same (hkk _ (by omega) (by omega) (by omega) (fun e => by have := sv _ e; omega)) 0).trans c10, ⟨(cell_same (hkk _ ?_ (by omega) (by omega) (fun e => by have := sv _ e; omega)) 0).trans hk7.c1, (cell_same (hkk _ ?_ (by omega) (by omega) (fun e => by have := sv _ e; omega)) 0).trans hk7.c2⟩, HR4.out.keep (fun g hg => k4 g (rw4 g hg).2), hB7.trans ⟨h.os, h.tape, h.output, h.size, fun k hk => ?_⟩⟩
      · exact World.block_lt_of_cell? _ _ hk7.c1
      · exact World.block_lt_of_cell? _ _ hk7.c2
      · exact hkk k (by omega) (by omega) (by omega) (fun e => by have := sv _ e; omega)
    refine (wpIn_wide (n := 8)).1 ?_
    refine rangeG (n := 8) (by omega) (gf := 40) (lb := #[.pointer (some ⟨w5.heap.size + 1 + 1, 0, none⟩), .pointer (some ⟨w5.heap.size + 1 + 1 + 1, 0, none⟩)]) rfl (fun args w => by kernel_rfl)
      (row1_in 7 (by omega) p _ _ (outP want (chg want add rem) k) (stP want (chg want add rem) k) (fun j => ?hst) (outP_first _ _ _) (outP_next ?hr1 (chg_rise _ _ _))) rfl
      (fun pre W' => ∃ vg vs, LP w7 p (w5.heap.size + 1) w4.heap.size vS pre (stP want (chg want add rem) k pre.length) vg vs W')
      (fun pre A B row ⟨vg, vs, h⟩ hg hr => ⟨vg, vs, h.grown H7.out.1 hg hr⟩)
      (fun pre W' ⟨vg, vs, h⟩ => ⟨⟨_, _, h.set⟩, (H7.out.2.2.1 _ _ _ _ _ h).2.2.1⟩)
      (fun pre W' q ⟨vg, vs, h⟩ => ⟨vg, vs, h.drewN q⟩)
      ?h0
      (fun x => { tmps := #[Value.slice a l.length c, Value.string (str add), Value.string (str rem), Value.int IntKind.u8 (ak : Nat), undef, Value.pointer (some ⟨W.heap.size, 0, none⟩), Value.pointer (some ⟨W.heap.size + 1, 0, none⟩), Value.pointer (some ⟨W.heap.size + 1 + 1, 0, none⟩), Value.bool false, Value.slice a4 want.length c4, Value.pointer (some ⟨w5.heap.size, 0, none⟩), Value.pointer (some ⟨w5.heap.size + 1, 0, none⟩), Value.string (str x), undef, undef, undef, undef, Value.bool true, Value.bool false, Value.slice a l.length c, Value.int IntKind.i64 (l.length : Nat), Value.bool (decide ((60 : Int) < (l.length : Nat))), Value.slice a l.length c, Value.func (Fn.func 20) #[] #[Value.pointer (some ⟨w1.heap.size, 0, none⟩)], Value.slice a3 (srt l).length c3, Value.slice a4 want.length c4, Value.slice a l.length c, Value.pointer (some ⟨p, 0, none⟩), Value.pointer (some ⟨p, 0, none⟩), Value.func (Fn.func 40) #[] #[Value.pointer (some ⟨w5.heap.size + 1 + 1, 0, none⟩), Value.pointer (some ⟨w5.heap.size + 1 + 1 + 1, 0, none⟩)], Value.string (str x), undef, undef, undef, undef, undef, undef, undef, undef, undef, undef, undef, undef, undef, undef, undef, undef, undef, undef, undef, undef, undef, undef, undef, undef, undef, undef, undef, undef, undef, undef, undef, undef, undef, undef, undef, undef, undef, undef, undef, undef, undef, undef, undef, undef, undef, undef, undef, undef, undef, undef, undef, undef, undef, undef, undef, undef, undef, undef, undef, undef, undef, undef, undef], defers := [] }) ?assign ?body ?done
    case hst =>
      have h1 : want.length ≤ 60 := by rw [HWA.out]; exact Nat.le_trans (dd_len l) h60
      have h2 := chg_len want add rem
      unfold stP
      by_cases hj : j ≤ k
      · rw [if_pos hj]; omega
      · rw [if_neg hj]; omega
    case hr1 => rw [HWA.out]; exact dd_rise l
    case h0 => exact ⟨_, _, H7.out.2.1⟩
    case assign =>
      intro ll x W' K hKK
      gi_wp2
      exact hKK
    case body =>
      rintro ll pre x W' ⟨vg, vs, hLP⟩ hlt
      have hpl : pre.length < 200 := by
        have h1 : want.length ≤ 60 := by rw [HWA.out]; exact Nat.le_trans (dd_len l) h60
        have h2 := chg_len want add rem
        have h3 := outP_len want (chg want add rem) k
        omega
      obtain ⟨⟨c5, c6, c7⟩, c10, _, _, _⟩ := H7.out.2.2.1 _ _ _ _ _ hLP
      have HL := Lib.hid hLP
      obtain ⟨ga, gc, rfl⟩ := hLP.row.slice
      have c11 := hLP.c11
      clear hLP
      by_cases hpk : pre.length = k
      · have hmod : (ak : Int) % 60 = (pre.length : Int) := by
          have := HK.out
          omega
        have hwl : want.length ≤ 60 := by rw [HWA.out]; exact Nat.le_trans (dd_len l) h60
        have hst0 : stP want (chg want add rem) k pre.length = want := by unfold stP; rw [if_pos (by omega)]
        have hst1 : ∀ x : Txt, stP want (chg want add rem) k (pre ++ [x]).length = chg want add rem := fun x => by unfold stP; rw [if_neg (by simp; omega)]
        have HS1 := Lib.hid (hst1 x)
        rw [hst0] at HL
        have hB4 : w4.heap.size ≤ W'.heap.size := by have h1 := HL.out.size; have h2 := H7.out.2.2.2; have h3 := HB5.out.size; omega
        have HADD := Lib.hid (sxAdd_any HL.out.set (by omega) hB4 add)
        have HREM : Hid (∀ w8 vs1 l1, SetT w8 p w4.heap.size vs1 l1 → addS want add l1 → Calls Tryz.prog 11 #[.pointer (some ⟨p, 0, none⟩), .string (str rem)] w8 fun e w' => (∃ b, e = .returned (.bool b)) ∧ ∃ v' l', SetT w' p w4.heap.size v' l' ∧ remS l1 rem l' ∧ SetK p w4.heap.size vs1 w8 w' ∧ (v'.ownBlock = vs1.ownBlock ∨ ∃ g, v'.ownBlock = some g ∧ w8.heap.size ≤ g)) := fun w8 vs1 l1 hs1 ha1 => sxRemove_any hs1 (by have := ha1.2.2; omega) rem
        clear hst0 hst1 hB4
        have HPK := Lib.hid hpk
        clear hpk
        gi_wp2_with (first
          | (refine ⟨trivial, ?_⟩; gi_at_call 10; refine (CallsIn.inRound ll (callsIn_wide.2 HADD.out)).mono ?_; rintro e w9 ⟨⟨b1, rfl⟩, vs1, l1, hs1, ha1, hk1, ho1⟩; have HL1 := Lib.hid (HL.out.step_set H7.out.1 hs1 hk1 ho1); have HK1 := Lib.hid (HL.out.keeps_set H7.out.1 hk1); have HSS1 := Lib.hid hs1; have HA1 := Lib.hid ha1; obtain ⟨⟨_, c6', _⟩, c10', _, _, _⟩ := H7.out.2.2.1 _ _ _ _ _ HL1.out; clear hs1 ha1 hk1 ho1)
          | (refine ⟨trivial, ?_⟩; gi_at_call 11; refine (CallsIn.inRound ll (callsIn_wide.2 (HREM.out _ _ _ HSS1.out HA1.out))).mono ?_; rintro e w10 ⟨⟨b2, rfl⟩, vs2, l2, hs2, ha2, hk2, ho2⟩; have HL2 := Lib.hid (HL1.out.step_set H7.out.1 hs2 hk2 ho2); have HK2 := Lib.hid (HL1.out.keeps_set H7.out.1 hk2); have HA2 := Lib.hid ha2; have c11' := HL2.out.c11; have HRW : Hid (∀ o, (w10.alloc o).ownsRow w7.heap.size 9 1 (.slice ga pre.length gc) pre.length (pre.map eS)) := (fun o => World.ownsRow.alloc HL2.out.row o); have HSZ : Hid (∀ o, w7.heap.size ≤ (w10.alloc o).heap.size) := (fun o => by have := HL2.out.size; rw [World.size_alloc]; omega); clear hs2 ha2 hk2 ho2)
          | (gi_at_builtin; refine wpListIn_append_own_at _ rfl _ _ 22 rfl w7.heap.size 9 i0 (.string ⟨#[]⟩) 1 16 Tryz.underlying22 hi hz0 hz1 hz2 rfl (by decide) _ pre.length (pre.map eS) rfl (HRW.out _) ⟨w10.heap.size, 0, none⟩ 1 1 [.string (str x)] rfl rfl (cell_one_new _ _ _) (by simp [Value.oneCell']) (by unfold maxLen; omega) (by omega) (HSZ.out _) ?_; intro v' w8 hown' hgrow _ hat; have HPU := Lib.hid (HL2.out.push H7.out.1 _ hown' hgrow hat); obtain ⟨g', cap', rfl⟩ := ownsRow_succ hown'; obtain ⟨_, _, d11, e11⟩ := HPU.out; clear hown' hgrow hat))
        have h1 := HPU.out.1
        have hl2 : l2 = chg want add rem := chg_eq HA1.out.2.1 HA2.out.1 HA2.out.2.1
        rw [hl2, ← HS1.out] at h1
        exact ⟨HK1.out.trans (HK2.out.trans HPU.out.2.1), _, _, h1⟩
      · have hpq : ((pre.length : Int) == (ak : Int) % 60) = false := by
          have := HK.out
          simp only [beq_eq_false_iff_ne, ne_eq]; omega
        have HRW : Hid (∀ o, (W'.alloc o).ownsRow w7.heap.size 9 1 (.slice ga pre.length gc) pre.length (pre.map eS)) := fun o => World.ownsRow.alloc HL.out.row o
        have HSZ : Hid (∀ o, w7.heap.size ≤ (W'.alloc o).heap.size) := fun o => by have := HL.out.size; rw [World.size_alloc]; omega
        have HS1 : Hid (stP want (chg want add rem) k (pre ++ [x]).length = stP want (chg want add rem) k pre.length) := by
          show _ = _
          unfold stP
          rw [List.length_append, List.length_singleton]
          by_cases h : pre.length ≤ k
          · rw [if_pos h, if_pos (by omega)]
          · rw [if_neg h, if_neg (by omega)]
        gi_wp2_with (gi_at_builtin; refine wpListIn_append_own_at _ rfl _ _ 22 rfl w7.heap.size 9 i0 (.string ⟨#[]⟩) 1 16 Tryz.underlying22 hi hz0 hz1 hz2 rfl (by decide) _ pre.length (pre.map eS) rfl (HRW.out _) ⟨W'.heap.size, 0, none⟩ 1 1 [.string (str x)] rfl rfl (cell_one_new _ _ _) (by simp [Value.oneCell']) (by unfold maxLen; omega) (by omega) (HSZ.out _) ?_; intro v' w8 hown' hgrow _ hat; have HPU := Lib.hid (HL.out.push H7.out.1 _ hown' hgrow hat); obtain ⟨g', cap', rfl⟩ := ownsRow_succ hown'; obtain ⟨_, _, d11, e11⟩ := HPU.out; clear hown' hgrow hat)
        have h1 := HPU.out.1
        rw [← HS1.out] at h1
        exact ⟨HPU.out.2.1, _, _, h1⟩
    case done =>
      rintro D W' hD ⟨vg, vs, hLP⟩ hdef
      have HD := Lib.hid hD
      have HDF := Lib.hid hdef
      obtain ⟨hb3, hc10, _, hrw, hbw⟩ := H7.out.2.2.1 _ _ _ _ _ hLP
      have HB3' := Lib.hid hb3
      have HRWN := Lib.hid hrw
      have HBW := Lib.hid hbw
      have HGOT := Lib.hid hLP.row
      have hsz := hLP.size
      have HSZ := Lib.hid hsz
      have c11 := hLP.c11
      have c5 := hb3.c5
      have c6 := hb3.c6
      have c7 := hb3.c7
      have hdlt : D < W'.heap.size := (Array.getElem?_eq_some_iff.1 hdef).1
      have HDL := Lib.hid hdlt
      have HEND : Hid (∀ (wE : World) (tm : Array Value), RowKit.Below W'.heap.size W' wE → tm.getD 8 undef = Value.bool true → LeavesInM WF 8 Tryz.prog Tryz.f3 tm (fun e W' => e = .returned (.bool true) ∧ RowKit.Below W.heap.size W W') [{ target := .collected D, args := #[] }] .returning wE) := fun wE tm hb ht => by
        have hKE : wE.heap[D]? = some (.deferred (some [])) := (hb.block D hdlt).trans hdef
        have hbE : RowKit.Below W.heap.size W wE := hbw.trans (hb.mono hbw.size)
        have hbs := hbw.size
        refine ⟨by simp, .inl ⟨_, _, rfl, run_takeDeferred hKE, ?_⟩⟩
        exact ⟨_, results_tmp rfl _ _ _, by rw [ht], hbE.trans (belowK_b (w := W) (Nat.le_refl _) wE D _ _ (by have h1 := H7.out.2.2.1 _ _ _ _ _ H7.out.2.1; have := h1.2.2.2.2.size; omega) hKE rfl rfl)⟩
      clear hLP hb3 hrw hbw hD hdef hdlt hc10 hsz
      have hmod : (ak : Int) % 60 = (k : Int) := by
        have := HK.out
        omega
      have hk60 : k < 60 := by have := HK.out; omega
      clear hmod
      have hk := HK.out
      subst hk
      by_cases hkl : want.length ≤ ak % 60
      · have hklz : (want.length : Int) ≤ (ak : Int) % 60 := by omega
        have HE : Hid (outP want (chg want add rem) (ak % 60) = want) := outP_none hkl
        rw [HE.out] at HGOT
        have HEQ := Lib.hid (sxEq_any vg (.slice a4 want.length c4) want (by have : want.length ≤ 60 := by rw [HWA.out]; exact Nat.le_trans (dd_len l) h60
                                                                             omega) W' HGOT.out.sl HRWN.out.sl)
        obtain ⟨ga, gc, rfl⟩ := HGOT.out.slice
        go_wp2_with (go_at_call 12; (with_reducible refine HEQ.out.mono ?_); rintro e w8 ⟨rfl, q, rfl⟩)
        rw [HQ.out]
        exact HEND.out _ _ (below_drewT (RowKit.Below.refl _ _) q) rfl
      · have hklz : ¬ (want.length : Int) ≤ (ak : Int) % 60 := by omega
        obtain ⟨last, hlast⟩ : ∃ last, want[ak % 60]? = some last := ⟨_, List.getElem?_eq_getElem (by omega)⟩
        have HE : Hid (outP want (chg want add rem) (ak % 60) = want.take (ak % 60 + 1) ++ above slt (chg want add rem) last) := outP_some hlast
        have hwl : want.length ≤ 60 := by rw [HWA.out]; exact Nat.le_trans (dd_len l) h60
        obtain ⟨gw, hgw⟩ : ∃ gw, a4 = some ⟨gw, 0, none⟩ := by
          rcases HRWN.out.open with ⟨_, h⟩ | ⟨g, cap, cur, h, _⟩
          · rw [h] at hkl; exact absurd (Nat.zero_le _) hkl
          · injection h with h1 _ _; exact ⟨g, h1⟩
        subst hgw
        have hcw : ∀ (j : Nat) x, want[j]? = some x → W'.cell? ⟨gw, j, none⟩ = some (.string (str x)) := fun j x hj => ((HRWN.out.cells rfl).2 j x hj).1
        have hcap : want.length ≤ c4 := by
          rcases HRWN.out.open with ⟨h, _⟩ | ⟨g, cap, cur, h, _, _, h1, _⟩
          · cases h
          · injection h with _ _ h3; omega
        have ck := hcw (ak % 60) last hlast
        have hcut1 := cutS_head gw want.length c4 (ak % 60 + 1) (by omega) hcap (by omega)
        have hkz : ((ak % 60 + 1 : Nat) : Int) = (ak : Int) % 60 + 1 := by omega
        rw [hkz] at hcut1
        have HCW := Lib.hid hcw
        have HLA := Lib.hid hlast
        clear hcw hlast
        obtain ⟨S1, hS1⟩ : ∃ S1, S1 = want.take (ak % 60 + 1) := ⟨_, rfl⟩
        obtain ⟨R, hR⟩ : ∃ R, R = want.drop (ak % 60 + 1) := ⟨_, rfl⟩
        have HS1 := Lib.hid hS1
        have HR := Lib.hid hR
        have N1 : Hid ((S1.map eS).length = (ak % 60 + 1) * 1) := by show _ = _; rw [hS1, List.length_map, List.length_take]; omega
        have N2 : Hid (∀ (j : Nat) u, (S1.map eS)[j]? = some u → W'.cell? ((⟨gw, 0, none⟩ : Addr).add j) = some u) := fun j u hj => by
          rw [add_plain', Nat.zero_add]
          rw [List.getElem?_map] at hj
          cases hy : S1[j]? with
          | none => rw [hy] at hj; cases hj
          | some y =>
            rw [hy] at hj; cases hj
            rw [hS1, List.getElem?_take] at hy
            split at hy
            · exact HCW.out j y hy
            · cases hy
        have NO : Hid (∀ (l : List Txt), ∀ u ∈ l.map eS, u.oneCell' = true) := fun l u hu => by
          obtain ⟨y, _, rfl⟩ := List.mem_map.1 hu
          rfl
        have HRL : Hid (R.length = want.length - (ak % 60 + 1)) := by show _ = _; rw [hR, List.length_drop]
        clear hS1 hR
        obtain ⟨o', HO'⟩ : ∃ o', Hid ((∀ W, (Instr.sliceAt 22 (.slice (some ⟨gw, 0, none⟩) want.length c4) (some (.int .i64 ((ak : Int) % 60 + 1))) none none).run Tryz.prog W = .ok (.slice (some ⟨gw, o', none⟩) R.length (c4 - (ak % 60 + 1))) W) ∧ (R = [] ∨ o' = ak % 60 + 1)) := by
          by_cases hq : ak % 60 + 1 < c4
          · refine ⟨ak % 60 + 1, fun W => ?_, .inr rfl⟩
            have h := cutS_at gw want.length c4 (ak % 60 + 1) hq (by omega) W
            rw [hkz] at h
            rw [HRL.out]
            exact h
          · have h0 : R = [] := List.length_eq_zero_iff.1 (by have := HRL.out; omega)
            have hn : want.length = ak % 60 + 1 := by omega
            refine ⟨0, fun W => ?_, .inl h0⟩
            have h := cutS_none gw want.length c4 (by omega) (by omega) W
            rw [h0]
            have e : ((want.length : Nat) : Int) = (ak : Int) % 60 + 1 := by omega
            rw [e, hn] at h
            rw [hn]
            exact h
        have hcut2 := HO'.out.1
        go_upto_region 18 with (at_builtin; refine wpList_append_own _ rfl _ _ 22 rfl W'.heap.size 9 i0 (.string ⟨#[]⟩) 1 16 Tryz.underlying22 hi hz0 hz1 hz2 rfl (by decide) _ 0 [] rfl (World.ownsRow_nil _ _ _ _) ⟨gw, 0, none⟩ (ak % 60 + 1) c4 (S1.map eS) rfl N1.out N2.out (NO.out _) (by unfold maxLen; omega) (by omega) (Nat.le_refl _) ?_; intro v8 w8 hown hgrow _; have HOWN := Lib.hid hown; have HGROW := Lib.hid hgrow; clear hown hgrow)
        have HB8 : Hid (RowKit.Below W'.heap.size W' w8) := (RowKit.Below.refl _ _).grown HGROW.out (Nat.le_refl _) (fun k hk => by cases hk)
        have HR8 : Hid (RowS w8 W'.heap.size v8 S1) := by
          have h := HOWN.out
          have e : S1.length = ak % 60 + 1 := by have := N1.out; rw [List.length_map] at this; omega
          show w8.ownsRow _ _ _ _ _ _
          rw [e]
          simpa using h
        clear HOWN HGROW
        have ck8 : w8.cell? ⟨gw, ak % 60, none⟩ = some (.string (str last)) := (HB8.out.cell (p := ⟨gw, ak % 60, none⟩) (World.block_lt_of_cell? _ _ ck)).trans ck
        obtain ⟨ga8, gc8, rfl⟩ := HR8.out.slice
        have N4 : Hid (∀ (j : Nat) u, (R.map eS)[j]? = some u → w8.cell? ((⟨gw, o', none⟩ : Addr).add j) = some u) := fun j u hj => by
          rw [List.getElem?_map] at hj
          cases hy : R[j]? with
          | none => rw [hy] at hj; cases hj
          | some y =>
            rw [hy] at hj; cases hj
            have ho : o' = ak % 60 + 1 := HO'.out.2.resolve_left (fun h => by rw [h] at hy; simp at hy)
            rw [HR.out, List.getElem?_drop] at hy
            rw [add_plain', ho]
            have := HCW.out _ y hy
            exact (HB8.out.cell (p := ⟨gw, ak % 60 + 1 + j, none⟩) (World.block_lt_of_cell? _ _ this)).trans this
        go_upto_region 20 with (at_builtin; refine wpList_append_own _ rfl _ _ 22 rfl w8.heap.size 9 i0 (.string ⟨#[]⟩) 1 16 Tryz.underlying22 hi hz0 hz1 hz2 rfl (by decide) _ 0 [] rfl (World.ownsRow_nil _ _ _ _) ⟨gw, o', none⟩ R.length (c4 - (ak % 60 + 1)) (R.map eS) rfl (by rw [List.length_map, Nat.mul_one]) N4.out (NO.out _) (by have := HRL.out; unfold maxLen; omega) (by have := HRL.out; omega) (Nat.le_refl _) ?_; intro v9 w9 hown hgrow _; have HOWN := Lib.hid hown; have HGROW := Lib.hid hgrow; clear hown hgrow)
        have HB9 : Hid (RowKit.Below w8.heap.size w8 w9) := (RowKit.Below.refl _ _).grown HGROW.out (Nat.le_refl _) (fun k hk => by cases hk)
        have HR9 : Hid (RowS w9 w8.heap.size v9 R) := by
          have h := HOWN.out
          show w9.ownsRow _ _ _ _ _ _
          simpa using h
        have HR89 : Hid (RowS w9 W'.heap.size (.slice ga8 S1.length gc8) S1) := HR8.out.below HB9.out
        have HB09 : Hid (RowKit.Below W'.heap.size W' w9) := HB8.out.trans (HB9.out.mono HB8.out.size)
        have HGOT9 : Hid (RowS w9 w7.heap.size vg (outP want (chg want add rem) (ak % 60))) := HGOT.out.below HB09.out
        have HB39 : Hid (B3 w9 W.heap.size add rem ak) := HB3'.out.keep (fun k _ hk => HB09.out.block k (by have h1 := HZ1.out; have h2 := HX4.out.2.2; have h3 := HB5.out.size; have h4 := H7.out.2.2.2; have h5 := HSZ.out; omega))
        have c59 := HB39.out.c5
        have HR8B : Hid (∀ wX, RowKit.Below w8.heap.size w9 wX → RowS wX W'.heap.size (.slice ga8 S1.length gc8) S1) := fun wX hb => HR89.out.stay (fun g hg => (HR8.out.lt hg).1) hb
        have H11 : Hid (w5.heap.size + 1 < W'.heap.size ∧ W'.cell? ⟨w5.heap.size + 1, 0, none⟩ = some vg) := ⟨World.block_lt_of_cell? _ _ c11, c11⟩
        clear HOWN HGROW HR8 N4 c5 c6 c7 c11 ck ck8 hcut1 hcut2
        obtain ⟨ga9, gc9, rfl⟩ := HR9.out.slice
        have hRl : R.length ≤ 60 := by have := HRL.out; omega
        have HCON := Lib.hid (sxCont_any _ R (by omega) add w9 HR9.out.sl)
        have hbl : ∀ x y : Txt, Op.bytesLess (str x).toList (str y).toList = slt x y := fun x y => by rw [strL, strL, bytesLess_eq]; rfl
        have HEG : Hid (∀ (args : Array Value) (w : World), (callFunc 12 args).run Tryz.prog w = .ok (.enter 12 args) w) := fun args w => by kernel_rfl
        have HST := Lib.hid (fun (T : List Txt) (v : Value) (hT : T.length ≤ 1000) (B : Nat) (wx : World) (hr : RowS wx B v T) => sxSort_any v T (by omega) B wx hr)
        have hends : (slt last add = true ∧ add ∈ R) ∨ (slt last add = true ∧ add ∉ R) ∨ slt add last = true ∨ last = add := by
          cases h1 : slt last add with
          | true => by_cases h2 : add ∈ R
                    · exact .inl ⟨rfl, h2⟩
                    · exact .inr (.inl ⟨rfl, h2⟩)
          | false =>
            cases h2 : slt add last with
            | true => exact .inr (.inr (.inl rfl))
            | false => exact .inr (.inr (.inr (sord.tri h1 h2)))
        rcases hends with ⟨hla, hin⟩ | ⟨hla, hin⟩ | hla | hla
        case' inl =>
          have HA : Hid (R = leftA R add last) := by
            show _ = _
            unfold leftA
            rw [if_neg (fun h => h.2 hin)]
          rw [decide_eq_true hin] at HCON
          have hb1 : Op.bytesLess (str add).toList (str last).toList = false := by rw [hbl]; exact sord.asy hla
          have hb2 : ((str add).toList == (str last).toList) = false := by rw [strL, strL]; simp only [beq_eq_false_iff_ne, ne_eq]; exact fun e => sord.ne hla e.symm
          clear hla hin hbl
          go_upto_region 23 with (go_at_call 13; (with_reducible refine HCON.out.mono ?_); rintro e wA ⟨rfl, rfl⟩)
          have HRA : Hid (RowS w9 w8.heap.size (.slice ga9 R.length gc9) (leftA R add last)) := by rw [← HA.out]; exact HR9
          have HBA : Hid (RowKit.Below w8.heap.size w9 w9) := RowKit.Below.refl _ _
          clear hb1 hb2
        case' inr.inl =>
          have HA : Hid (srt (R ++ [add]) = leftA R add last) := by
            show _ = _
            unfold leftA
            rw [if_pos ⟨hla, hin⟩]
          rw [decide_eq_false hin] at HCON
          have hb1 : Op.bytesLess (str add).toList (str last).toList = false := by rw [hbl]; exact sord.asy hla
          have hb2 : ((str add).toList == (str last).toList) = false := by rw [strL, strL]; simp only [beq_eq_false_iff_ne, ne_eq]; exact fun e => sord.ne hla e.symm
          clear hla hin hbl
          have HRW : Hid (∀ o, (w9.alloc o).ownsRow w8.heap.size 9 1 (.slice ga9 R.length gc9) R.length (R.map eS)) := fun o => World.ownsRow.alloc HR9.out o
          have HSZ9 : Hid (∀ o, w8.heap.size ≤ (w9.alloc o).heap.size) := fun o => by have := HB9.out.size; rw [World.size_alloc]; omega
          go_upto_region 23 with (first
            | (go_at_call 13; (with_reducible refine HCON.out.mono ?_); rintro e wA ⟨rfl, rfl⟩)
            | (at_builtin; refine wpList_append_own _ rfl _ _ 22 rfl w8.heap.size 9 i0 (.string ⟨#[]⟩) 1 16 Tryz.underlying22 hi hz0 hz1 hz2 rfl (by decide) _ R.length (R.map eS) rfl (HRW.out _) ⟨w9.heap.size, 0, none⟩ 1 1 [.string (str add)] rfl rfl (cell_one_new _ _ _) (by simp [Value.oneCell']) (by unfold maxLen; omega) (by omega) (HSZ9.out _) ?_; intro vB wB hown hgrow _; have HOWN := Lib.hid hown; have HGROW := Lib.hid hgrow; clear hown hgrow; have HRB : Hid (RowS wB w8.heap.size vB (R ++ [add])) := (by have h := HOWN.out; show wB.ownsRow _ _ _ _ _ _; rw [List.length_append, List.map_append]; exact h); have HBB : Hid (RowKit.Below w8.heap.size w9 wB) := (((RowKit.Below.refl _ w9).alloc HB9.out.size _).grown HGROW.out (HSZ9.out _) (fun k hk => (HR9.out.lt hk).2)); obtain ⟨gaB, gcB, hvv⟩ := HRB.out.slice; rw [List.length_append, List.length_singleton] at hvv; subst hvv; clear HOWN HGROW)
            | (go_at_call 14; go_loud (refine (sxSort_any _ (R ++ [add]) (by rw [List.length_append, List.length_singleton]; omega) _ _ HRB.out).mono ?_; rintro e wC ⟨rfl, hrC, hbC⟩; rw [HA.out] at hrC; have HRA := Lib.hid hrC; have HBA := Lib.hid (HBB.out.trans hbC); clear hrC hbC)))
          clear hb1 hb2
        case' inr.inr.inl =>
          have HA : Hid (R = leftA R add last) := by
            show _ = _
            unfold leftA
            rw [if_neg (fun h => by have := sord.asy hla; rw [h.1] at this; cases this)]
          have hb1 : Op.bytesLess (str add).toList (str last).toList = true := by rw [hbl]; exact hla
          clear hla hbl
          go_upto_region 23 with fail
          have HRA : Hid (RowS w9 w8.heap.size (.slice ga9 R.length gc9) (leftA R add last)) := by rw [← HA.out]; exact HR9
          have HBA : Hid (RowKit.Below w8.heap.size w9 w9) := RowKit.Below.refl _ _
          clear hb1
        case' inr.inr.inr =>
          have HA : Hid (R = leftA R add last) := by
            show _ = _
            unfold leftA
            rw [if_neg (fun h => sord.ne h.1 hla)]
          have hb2 : (str add).toList = (str last).toList := by rw [hla]
          clear hla hbl
          go_upto_region 23 with fail
          have HRA : Hid (RowS w9 w8.heap.size (.slice ga9 R.length gc9) (leftA R add last)) := by rw [← HA.out]; exact HR9
          have HBA : Hid (RowKit.Below w8.heap.size w9 w9) := RowKit.Below.refl _ _
          clear hb2
        all_goals
          have hAl : (leftA R add last).length ≤ 1000 := by
            rw [← HA.out]
            first
              | omega
              | (rw [srt_len, List.length_append, List.length_singleton]; omega)
          have HZZ : Hid (W.heap.size + 3 ≤ w8.heap.size) := by have h1 := HZ1.out; have h2 := HX4.out.2.2; have h3 := HB5.out.size; have h4 := H7.out.2.2.2; have h5 := HSZ.out; have h6 := HB8.out.size; show _ ≤ _; omega
          have HB3A := Lib.hid (HB39.out.keep (fun k _ hk => HBA.out.block k (by have := HZZ.out; omega)))
          have hde := sxDelF_any _ (leftA R add last) (by omega) w8.heap.size (W.heap.size + 1) rem _ HRA.out HB3A.out.c6 (by have := HZZ.out; omega)
          change Calls _ _ _ _ (fun e w' => ∃ v', e = Ending.returned v' ∧ RowS w' w8.heap.size v' (leftP R add rem last) ∧ RowKit.Below w8.heap.size _ w') at hde
          have HT : Hid (leftP R add rem last = above slt (chg want add rem) last) := by rw [HR.out]; exact leftP_eq (by rw [HWA.out]; exact dd_rise l) HLA.out
          rw [HT.out] at hde
          obtain ⟨T, hT⟩ : ∃ T, T = above slt (chg want add rem) last := ⟨_, rfl⟩
          have hTl : T.length ≤ 1000 := by rw [hT]; exact Nat.le_trans (List.length_filter_le ..) (Nat.le_trans (chg_len want add rem) (by omega))
          rw [← hT] at hde HE
          have HTD := Lib.hid hT
          have HDE := Lib.hid hde
          clear hT hde HT
          go_upto_region 24 with (go_at_call 15; (with_reducible refine HDE.out.mono ?_); rintro e wD ⟨vD, rfl, hrD, hbD⟩; have HRD2 := Lib.hid hrD; have HBD := Lib.hid hbD; obtain ⟨gaD, gcD, rfl⟩ := hrD.slice; clear hrD hbD)
          have HB9D : Hid (RowKit.Below w8.heap.size w9 wD) := HBA.out.trans HBD.out
          have HB0D : Hid (RowKit.Below W'.heap.size W' wD) := HB09.out.trans (HB9D.out.mono HB8.out.size)
          have HGD : Hid (RowS wD w7.heap.size vg (outP want (chg want add rem) (ak % 60))) := HGOT.out.below HB0D.out
          have HSD : Hid (RowS wD W'.heap.size (.slice ga8 S1.length gc8) S1) := HR8B.out wD HB9D.out
          have k11 : wD.cell? ⟨w5.heap.size + 1, 0, none⟩ = some vg := (HB0D.out.cell (p := ⟨w5.heap.size + 1, 0, none⟩) H11.out.1).trans H11.out.2
          have hSl : S1.length ≤ 1000 := by have := N1.out; rw [List.length_map] at this; omega
          have hWD : W'.heap.size ≤ wD.drew.heap.size := HB0D.out.size
          obtain ⟨vE, wE, hrunE, hrE, hbE⟩ := appS wD.drew W'.heap.size w8.heap.size (.slice ga8 S1.length gc8) (.slice gaD T.length gcD) S1 T 22 hWD (HSD.out.below (below_drewT (RowKit.Below.refl _ wD) 1)) (HRD2.out.below (below_drewT (RowKit.Below.refl _ wD) 1)) (by omega) (by omega)
          have HGE : Hid (RowS wE w7.heap.size vg (S1 ++ T)) := by
            have h1 : RowS wE w7.heap.size vg (outP want (chg want add rem) (ak % 60)) := HGD.out.stay (fun g hg => (HGOT.out.lt hg).1) ((below_drewT (RowKit.Below.refl _ wD) 1).trans hbE)
            rw [HE.out, ← HS1.out] at h1
            exact h1
          have HRE := Lib.hid hrE
          have HBE : Hid (RowKit.Below W'.heap.size W' wE) := HB0D.out.trans ((below_drewT (RowKit.Below.refl _ wD) 1).trans hbE)
          have k11E : wE.cell? ⟨w5.heap.size + 1, 0, none⟩ = some vg := (HBE.out.cell (p := ⟨w5.heap.size + 1, 0, none⟩) H11.out.1).trans H11.out.2
          have HEQ := Lib.hid (sxEq_any vg vE (S1 ++ T) (by rw [List.length_append]; omega) wE HGE.out.sl HRE.out.sl)
          obtain ⟨gaE, gcE, hvE⟩ := HRE.out.slice
          rw [List.length_append] at hvE
          subst hvE
          clear hrE hbE hTl hSl hWD
          have HTS : Hid (∀ (ops : Array Oper) (o : Oper) (a : Act) (K : Act → World → Prop) (Q : Exit → Act → World → Prop) (E : Prop) (hg : o.guard = none) (ts : Array TypeId) (hop : o.op = Op.call { callee := Callee.value (Operand.func 12), args := #[.tmp 89, .tmp 92], argTypes := ts }) (hx : a.eval (.tmp 89) = vg) (hy : a.eval (.tmp 92) = .slice gaE (S1.length + T.length) gcE) (hK : ∀ w', (∃ q, w' = wE.drewN q) → K (a.put o.dst (.bool true)) w'), if Region.wanted o (yielded ops a.tmps) = true then Oper.wp Tryz.prog o a wE K Q else E) := fun ops o a K Q E hg ts hop hx hy hK => step_call_run hg 12 _ _ ts hop _ _ hx hy HEG _ (fun w' => ∃ q, w' = wE.drewN q) HEQ.out hK
          refine wp_mono (Q := mild _) ?_ (fun _ _ _ h => mild_le h)
        all_goals
          go_region_law (first
            | ((with_reducible refine step_append_run ?_ (.tmp 90) (.tmp 91) _ ?_ _ _ ?_ ?_ _ _ hrunE ?_); (next => rfl); (next => rfl); (next => rfl); (next => rfl))
            | (refine HTS.out _ _ _ _ _ _ rfl #[22, 22] rfl rfl rfl ?_; rintro wF ⟨q, rfl⟩))
          all_goals
            unfold mild
            go_wp2
            rw [HQ.out]
            exact HEND.out _ _ (below_drewT HBE.out q) rfl
  · have i60 : (60 : Int) < (l.length : Int) := by omega
    refine (callsIn_wide (n := 8)).1 (callsIn_of_wp_marks Tryz.func3 rfl trivial ?_ rfl)
    simp only [Tryz.ntmps3, List.size_toArray, List.length_cons, List.length_nil, Nat.reduceAdd, Nat.reduceSub, Array.replicate_succ, Array.replicate_zero, List.push_toArray, List.append_toArray, List.nil_append, List.cons_append]
    refine (wpIn_wide (n := 8)).2 ?_
    obtain ⟨Q, hQ⟩ : ∃ Q, Q = bodyPostM WF 8 Tryz.prog Tryz.f3 (fun e W' => e = .returned (.bool true) ∧ RowKit.Below W.heap.size W W') := ⟨_, rfl⟩
    rw [← hQ]
    have HQ := Lib.hid hQ
    clear hQ
    go_wp2_with (go_at_call 4; (with_reducible refine (plawake_any _).mono ?_); rintro e w1 ⟨rfl, hb1⟩; have HB1 := Lib.hid hb1; clear hb1)
    rw [HQ.out]
    obtain ⟨h1, h2, h3⟩ := H3.out _ _ _
    have hb := HB1.out
    rw [h3] at hb
    exact ⟨_, results_tmp rfl _ _ _, rfl, h2.trans (hb.mono (by omega))⟩
end Go.Proofs.YtnhbdonffomibaaGreat
/- A row of texts that is handed in, opened. -/
namespace Go.Proofs.YtnhbdonffomibaaGreat
open Go.ChangeShapes Go.WideShapes Go.ChangeAt Go.RowKit
theorem cells_str : Tryz.prog.cellsOf 9 = 1 := by kernel_rfl
theorem str_of (b : ByteArray) : ∃ l, b = str l := ⟨b.toList, by simp [str, ByteArray.toList_eq]⟩
theorem bounds_tx8 {q : Int} (h : (Lit.int .u8 q).wf = true) : 0 ≤ q ∧ q < 256 := by
  simp [Lit.wf, IntKind.min, IntKind.max, IntKind.signed, IntKind.bits] at h
  omega
theorem open_txts {H : Type} {enc : TypeId × Value → H} {W : World} {r : Reach} {b0 b1 : Nat} {sp : Nat → Bool} {held : Bool} {v : Value} {d : DataW H} {p : List MemPlace}
    (hv : Value.okWide Tryz.prog W r b0 22 v) (h : DataW.Trod enc Tryz.prog W b1 sp held 22 v d p) :
    ∃ l : List Txt, SlS W v l := by
  obtain ⟨a0, len, cap, rfl⟩ := okWide_slice Tryz.underlying22 hv
  obtain ⟨fuel, hf⟩ := h
  rcases open_strings Tryz.underlying22 Tryz.underlying9 cells_str hf with ⟨hcs, _⟩ | ⟨a, len', cap', ss, hcs, _, hl, hm, hz, _, hcell, hws⟩
  · simp [Value.cells] at hcs
    obtain ⟨rfl, rfl, rfl⟩ := hcs
    exact ⟨[], none, 0, 0, 0, rfl, .inl rfl, fun j x hj => by simp at hj⟩
  · simp [Value.cells] at hcs
    obtain ⟨rfl, rfl, rfl⟩ := hcs
    have hlen : len ≤ ss.length := by rw [hz]; split <;> omega
    have hx : ((ss.take len).map ByteArray.toList).length = len := by rw [List.length_map, List.length_take]; omega
    by_cases h0 : len = 0
    · subst h0
      exact ⟨[], some a, 0, 0, cap, rfl, .inl rfl, fun j x hj => by simp at hj⟩
    · obtain ⟨b, off, spot⟩ := a
      have hspot : spot = none := by simpa [Addr.add] using World.cell?_spot (hcell 0 (by omega))
      subst hspot
      refine ⟨(ss.take len).map ByteArray.toList, some ⟨b, off, none⟩, b, off, cap, by rw [hx], .inr rfl, fun j x hj => ?_⟩
      have hjl : j < len := by
        have := (List.getElem?_eq_some_iff.1 hj).1
        omega
      rw [List.getElem?_map, List.getElem?_take_of_lt hjl, List.getElem?_eq_getElem (by omega)] at hj
      simp only [Option.map_some, Option.some.injEq] at hj
      have hc := hcell j (by omega)
      rw [add_plain, List.getD_eq_getElem?_getD, List.getElem?_eq_getElem (by omega)] at hc
      rw [hc, ← hj]
      simp [str, ByteArray.toList_eq]
end Go.Proofs.YtnhbdonffomibaaGreat
