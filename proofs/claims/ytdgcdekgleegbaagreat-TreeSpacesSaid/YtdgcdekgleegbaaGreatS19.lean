/- TreeSpaces: for every row of rows of cells, every number of a round and every page the law answers true. No condition of its own. -/
import Derived.Test.YtdgcdekgleegbaaGreatS18
import Derived.Test.YtdgcdekgleegbaaGreatS04
import Derived.Deep.DeepCutAuto
import Derived.WalkKit
import Derived.ProofKit
import Derived.OpenShut
import Derived.ShutString
import Derived.ChangeOld
import Derived.Below
import Derived.Carry
set_option maxRecDepth 100000
set_option maxHeartbeats 4000000
set_option linter.unusedVariables false
/- The law of a space in memory: its walk. -/
namespace Go.Proofs.YtdgcdekgleegbaaGreat
open Go.RowKit Go.Maps
open Sl (Cl Kd Nd Rn)
def Fk (L : List (List Cl)) (k : Nat) : Nat → Option Nd := fun x => if 2 ≤ x ∧ x < 2 + k then (L[x - 2]?).map (fun l => ⟨true, l, []⟩) else none
theorem Fk_zero (L : List (List Cl)) : Fk L 0 = fun _ => none := by
  funext x
  unfold Fk
  rw [if_neg (by omega)]
theorem Fk_succ (L : List (List Cl)) (k : Nat) (l : List Cl) (h : L[k]? = some l) : upd (Fk L k) (2 + k) (some ⟨true, l, []⟩) = Fk L (k + 1) := by
  funext x
  by_cases hx : x = 2 + k
  · subst hx
    rw [upd_same]
    unfold Fk
    rw [if_pos (by omega), show 2 + k - 2 = k by omega, h]; rfl
  · rw [upd_other _ _ _ hx]
    unfold Fk
    by_cases h2 : 2 ≤ x ∧ x < 2 + k
    · rw [if_pos h2, if_pos (by omega)]
    · rw [if_neg h2, if_neg (by omega)]
theorem frz_at (k : Nat) : frz k (k + 1) = k := if_pos (Nat.lt_succ_self k)
theorem frz_ne {fz k : Nat} (h : k ≠ fz) : frz fz (k + 1) = frz fz k := by
  unfold frz
  by_cases h1 : fz < k
  · rw [if_pos h1, if_pos (by omega)]
  · rw [if_neg h1, if_neg (by omega)]
theorem Fk_all (L : List (List Cl)) (fr : Nat) : Fk L L.length = Fw L fr 0 := by
  funext y
  unfold Fk Fw
  by_cases hc : 2 ≤ y ∧ y < 2 + L.length
  · rw [if_pos hc, if_pos ⟨hc.1, hc.2, fun _ => hc.1⟩]
  · rw [if_neg hc, if_neg (fun h3 => hc ⟨h3.1, h3.2.1⟩)]
set_option maxHeartbeats 8000000 in
theorem spaces_walk (v0 : Value) (L : List (List Cl)) (fz id : Nat) (hfz : fz < 256) (hid : id < 4294967296) (w : World) (hs : SlR w v0 L) (hm : L.length ≤ maxLen) :
    Calls Tryz.prog 5 #[v0, .int .u8 fz, .int .u32 id] w fun e w' => e = .returned (.bool true) ∧ Below w.heap.size w w' := by
  have hmf : ∀ (fn : Fn) (first cap : Array Value) (w : World), (Instr.makeFunc fn first cap).run Tryz.prog w = .ok (.func fn first cap) w := fun _ _ _ _ => rfl
  obtain ⟨i0, hi, hz0, hz1, hz2⟩ := info_parts infoU32
  obtain ⟨a0, b0, o0, c0, rfl, ha0, hx0⟩ := hs
  have HS0 : Hid (SlR w (.slice a0 L.length c0) L) := ⟨a0, b0, o0, c0, rfl, ha0, hx0⟩
  have HA := Lib.hid ha0
  have HX0 := Lib.hid hx0
  have HK0 : Hid (Kp w.heap.size w (row1 w.heap.size #[.slice a0 L.length c0] ++ row1 (w.heap.size + 1) #[.int .u8 fz]) ((w.alloc (.cells #[.slice a0 L.length c0] 66)).alloc (.cells #[.int .u8 fz] 5))) := by
    have h0 := Kp.laid (Below.refl _ w) (Nat.le_refl _) #[.slice a0 L.length c0] 66
    have h2 := h0.more (Nat.le_refl _) #[.int .u8 fz] 5
    have hS : (w.alloc (.cells #[.slice a0 L.length c0] 66)).heap.size = w.heap.size + 1 := by simp
    rw [hS] at h2
    exact h2
  clear ha0 hx0
  go_enter Tryz.func5, Tryz.ntmps5
  go_upto_region 3 with (go_at_call 8; refine (tawake_any _).mono ?_; rintro e w1 ⟨rfl, hb1⟩; have HK1 := Lib.hid (HK0.out.step (Nat.le_refl _) hb1); have g3 := HK1.out.left.one.1; have g4 := HK1.out.right.one.1; clear hb1)
  by_cases hbig : 20 < L.length
  · have hbig2 : (20 : Int) < (L.length : Int) := by omega
    go_wp2
    go_ret
    exact ⟨rfl, HK1.out.below⟩
  have hsmall : ¬ (20 : Int) < (L.length : Int) := by omega
  go_upto_region 6 with (go_at_call 9; refine (new_any _).mono ?_; rintro e w2 ⟨rfl, hmem, hb2⟩; have HB2 := Lib.hid hb2; have HM2 := Lib.hid hmem; have k3 := (HK1.out.step (Nat.le_refl _) hb2).left.one.1; clear hmem hb2)
  have HP0 : Hid (w1.heap.size + 1 = w1.heap.size + 1) := rfl
  generalize hp : w1.heap.size + 1 = p at HM2 HP0 ⊢
  have HP := Lib.hid hp
  clear hp HP0
  have hwf : IntKind.i64.wrap (fz : Int) = (fz : Int) := by rw [IntKind.wrap_i64]; omega
  go_wp2
  go_loopg [8, 32] L.length (fun n sv i wr => ∃ (k : Nat) (ids : Value), k ≤ L.length ∧ n = L.length - k ∧ i = .int .i64 (k : Nat) ∧ ids = sv ∧ Hid (wr.ownsRow (p + 1) 28 1 ids k (idsV k)) ∧ Hid (Mem wr p w1.heap.size (p + 1) k k (frz fz k) (Fk L k)) ∧ Hid (Below w1.heap.size w1 wr) ∧ Hid (∀ j l, j < k → L[j]? = some l → l.length ≤ 20))
  case atStart => exact ⟨0, _, Nat.zero_le _, rfl, rfl, rfl, World.ownsRow_nil _ _ _ _, by rw [Fk_zero]; exact HM2.out, HB2.out, fun j l hj => absurd hj (Nat.not_lt_zero _)⟩
  case round =>
    obtain ⟨k, ids, hk, rfl, rfl, rfl, HI, HM, HB, HL⟩ := hrel
    have HKr := Lib.hid (HK1.out.stepB HB.out HK1.out.lt HK1.out.below.size)
    have r3 := HKr.out.left.one.1
    have r4 := HKr.out.right.one.1
    by_cases hlt : k < L.length
    · obtain ⟨l, hl⟩ : ∃ l, L[k]? = some l := ⟨L[k], List.getElem?_eq_getElem hlt⟩
      obtain rfl : a0 = some ⟨b0, o0, none⟩ := HA.out.resolve_left (by intro h; rw [h] at hlt; cases hlt)
      obtain ⟨x, e0, e1, e2⟩ := HX0.out k l hl
      have hbl := World.block_lt_of_cell? _ _ e0
      have HBw := HK1.out.below
      have d0 : wr.cell? ⟨b0, o0 + k, none⟩ = some x := (HB.out.cell (p := ⟨b0, o0 + k, none⟩) (Nat.lt_of_lt_of_le hbl HBw.size)).trans ((HBw.cell (p := ⟨b0, o0 + k, none⟩) hbl).trans e0)
      have HSL : Hid (∀ W, Below w1.heap.size w1 W → SlC W x l) := fun W hW => (e1.below HBw).below hW
      have HC := Lib.hid e2
      obtain ⟨a1, m1, c1, _, _, _⟩ := e2
      have hlen : m1 = l.length := by
        obtain ⟨_, _, _, _, he, _⟩ := e1
        cases he; rfl
      subst hlen
      have HLK := Lib.hid hl
      clear e0 e1 hbl HBw hl
      by_cases hbg : 20 < l.length
      · have hbg2 : (20 : Int) < (l.length : Int) := by omega
        go_wp2
        go_ret
        exact ⟨rfl, HK1.out.below.trans (HB.out.mono HK1.out.below.size)⟩
      have hsm : ¬ (20 : Int) < (l.length : Int) := by omega
      by_cases hkf : k = fz
      · subst hkf
        go_wp2_with (first
          | (go_at_call 16; refine (freeze_any HM.out).mono ?_; rintro e wa ⟨rfl, hma, hta⟩; have HMF := Lib.hid hma; have HIF := Lib.hid (ownsRow_two HI.out hta (Nat.lt_succ_self _) (by have := HP.out; omega)); have HBF := Lib.hid (HB.out.trans (hta.below (by have := HP.out; omega) (Nat.le_refl _) HB.out.size)); clear hma hta)

          | (go_at_call 27; refine (from_any true _ l _ (HSL.out _ HBF.out) HC.out (by omega)).mono ?_; rintro e wb ⟨v6, rfl, hv6, hb6⟩; have HV6 := Lib.hid hv6; have HM6 := Lib.hid (HMF.out.below hb6); have HI6 := Lib.hid (ownsRow_below HIF.out hb6); have HB6 := Lib.hid (HBF.out.trans (hb6.mono HBF.out.size)); obtain ⟨vc, vk, rfl, _, hcc, _, hkk⟩ := hv6; obtain ⟨a5, n5, c5, _, _, _⟩ := hcc; obtain ⟨a6, n6, c6, _, _, _⟩ := hkk; unfold ndV; clear hb6)
          | (go_at_call 26; refine (make_any HM6.out (Nat.succ_le_of_lt HM6.out.p_lt) _ ⟨true, l, []⟩ HV6.out (by show l.length ≤ 100000; omega) (Nat.zero_le _) (by omega) (by omega)).mono ?_; rintro e wm ⟨rfl, hmm, htt⟩; have HMM := Lib.hid hmm; have HIM := Lib.hid (ownsRow_two HI6.out htt (Nat.lt_succ_self _) (by have := HP.out; omega)); have HBM := Lib.hid (HB6.out.trans (htt.below (by have := HP.out; omega) (Nat.le_refl _) HB6.out.size)); clear hmm htt)
          | (at_builtin; refine wpList_append_own _ rfl _ _ 51 rfl (p + 1) 28 i0 _ 1 4 Tryz.underlying51 hi hz0 hz1 hz2 rfl (by decide) _ k _ rfl (HIM.out.alloc _) ⟨wm.heap.size, 0, none⟩ 1 1 [.int .u32 ((2 + k : Nat) : Int)] rfl rfl ?p1 ?p2 ?p3 ?p4 ?p5 ?_))
        case p1 =>
          intro j y hj
          rw [add_plain', Nat.zero_add]
          exact (World.cell?_alloc_new wm _ _ j).trans (by simpa using hj)
        case p2 =>
          intro u hu
          simp at hu
          subst hu
          rfl
        case p3 => unfold maxLen; omega
        case p4 => omega
        case p5 => have := HMM.out.p_lt; simp; omega
        intro v' w4 hown' hgrow _
        have HIB := ownsRow_boxT (HIM.out.alloc (.cells #[.int .u32 ((2 + k : Nat) : Int)] 28))
        have HMA := HMM.out.below ((Below.refl _ _).alloc (Nat.le_refl _) (.cells #[.int .u32 ((2 + k : Nat) : Int)] 28))
        have hpb := HP.out
        have HM4 : Hid (Mem w4 p w1.heap.size (p + 1) (k + 1) (k + 1) (frz k (k + 1)) (Fk L (k + 1))) := by
          have h4 := HMA.grown hgrow (fun g hg => (HIB g hg).1) (by decide) (by decide) (fun e => by have := (HIB p e.symm).2; omega) (fun e => by have := (HIB _ e.symm).2; omega)
          rw [Fk_succ L k l HLK.out] at h4
          exact (by rw [frz_at]; exact h4)
        have HB4 : Hid (Below w1.heap.size w1 w4) := (HBM.out.alloc HBM.out.size _).grown hgrow (by have := HBM.out.size; simp; omega) (fun g hg => by have := (HIB g hg).2; omega)
        have HI4 : Hid (w4.ownsRow (p + 1) 28 1 v' (k + 1) (idsV (k + 1))) := by
          show w4.ownsRow _ _ _ _ _ _
          rw [idsV_succ]
          simpa using hown'
        clear hown' hgrow HIB HMA
        go_wp2
        go_roundg (L.length - (k + 1))
        case measure => omega
        case rel =>
          refine ⟨k + 1, _, hlt, rfl, by go_num, rfl, HI4, HM4, HB4, fun j l' hj hl' => ?_⟩
          by_cases hjk : j = k
          · subst hjk
            rw [HLK.out] at hl'
            cases hl'
            omega
          · exact HL.out j l' (by omega) hl'
      · have hkf2 : ¬ (k : Int) = (fz : Int) := by omega
        have HMF := HM
        have HIF := HI
        have HBF := HB
        go_wp2_with (first
          | (go_at_call 27; refine (from_any true _ l _ (HSL.out _ HBF.out) HC.out (by omega)).mono ?_; rintro e wb ⟨v6, rfl, hv6, hb6⟩; have HV6 := Lib.hid hv6; have HM6 := Lib.hid (HMF.out.below hb6); have HI6 := Lib.hid (ownsRow_below HIF.out hb6); have HB6 := Lib.hid (HBF.out.trans (hb6.mono HBF.out.size)); obtain ⟨vc, vk, rfl, _, hcc, _, hkk⟩ := hv6; obtain ⟨a5, n5, c5, _, _, _⟩ := hcc; obtain ⟨a6, n6, c6, _, _, _⟩ := hkk; unfold ndV; clear hb6)
          | (go_at_call 26; refine (make_any HM6.out (Nat.succ_le_of_lt HM6.out.p_lt) _ ⟨true, l, []⟩ HV6.out (by show l.length ≤ 100000; omega) (Nat.zero_le _) (by omega) (by omega)).mono ?_; rintro e wm ⟨rfl, hmm, htt⟩; have HMM := Lib.hid hmm; have HIM := Lib.hid (ownsRow_two HI6.out htt (Nat.lt_succ_self _) (by have := HP.out; omega)); have HBM := Lib.hid (HB6.out.trans (htt.below (by have := HP.out; omega) (Nat.le_refl _) HB6.out.size)); clear hmm htt)
          | (at_builtin; refine wpList_append_own _ rfl _ _ 51 rfl (p + 1) 28 i0 _ 1 4 Tryz.underlying51 hi hz0 hz1 hz2 rfl (by decide) _ k _ rfl (HIM.out.alloc _) ⟨wm.heap.size, 0, none⟩ 1 1 [.int .u32 ((2 + k : Nat) : Int)] rfl rfl ?p1 ?p2 ?p3 ?p4 ?p5 ?_))
        case p1 =>
          intro j y hj
          rw [add_plain', Nat.zero_add]
          exact (World.cell?_alloc_new wm _ _ j).trans (by simpa using hj)
        case p2 =>
          intro u hu
          simp at hu
          subst hu
          rfl
        case p3 => unfold maxLen; omega
        case p4 => omega
        case p5 => have := HMM.out.p_lt; simp; omega
        intro v' w4 hown' hgrow _
        have HIB := ownsRow_boxT (HIM.out.alloc (.cells #[.int .u32 ((2 + k : Nat) : Int)] 28))
        have HMA := HMM.out.below ((Below.refl _ _).alloc (Nat.le_refl _) (.cells #[.int .u32 ((2 + k : Nat) : Int)] 28))
        have hpb := HP.out
        have HM4 : Hid (Mem w4 p w1.heap.size (p + 1) (k + 1) (k + 1) (frz fz (k + 1)) (Fk L (k + 1))) := by
          have h4 := HMA.grown hgrow (fun g hg => (HIB g hg).1) (by decide) (by decide) (fun e => by have := (HIB p e.symm).2; omega) (fun e => by have := (HIB _ e.symm).2; omega)
          rw [Fk_succ L k l HLK.out] at h4
          exact (by rw [frz_ne hkf]; exact h4)
        have HB4 : Hid (Below w1.heap.size w1 w4) := (HBM.out.alloc HBM.out.size _).grown hgrow (by have := HBM.out.size; simp; omega) (fun g hg => by have := (HIB g hg).2; omega)
        have HI4 : Hid (w4.ownsRow (p + 1) 28 1 v' (k + 1) (idsV (k + 1))) := by
          show w4.ownsRow _ _ _ _ _ _
          rw [idsV_succ]
          simpa using hown'
        clear hown' hgrow HIB HMA
        go_wp2
        go_roundg (L.length - (k + 1))
        case measure => omega
        case rel =>
          refine ⟨k + 1, _, hlt, rfl, by go_num, rfl, HI4, HM4, HB4, fun j l' hj hl' => ?_⟩
          by_cases hjk : j = k
          · subst hjk
            rw [HLK.out] at hl'
            cases hl'
            omega
          · exact HL.out j l' (by omega) hl'
    · obtain rfl : k = L.length := by omega
      have HST : Hid (St w1 p L.length L.length (frz fz L.length) (Fw L (frz fz L.length) 0) ids L.length wr) := ⟨by have h5 := HM.out; rw [Fk_all L (frz fz L.length)] at h5; exact h5, HI.out, HB.out, by have := HP.out; omega⟩
      have HOE : Hid (∀ x, 2 ≤ x → lawOwn fz L.length x = decide (frz fz L.length + 2 ≤ x)) := fun x h2 => own_eq h2
      obtain ⟨a8, c8, rfl⟩ : ∃ a c, ids = .slice a L.length c := by
        rcases HI.out.2 with ⟨rfl, h0⟩ | ⟨g, cap, cur, rfl, _⟩
        · exact ⟨none, 0, by rw [h0]⟩
        · exact ⟨_, _, rfl⟩
      generalize frz fz L.length = fr at HST HOE
      have HBX : Hid (∀ W, Below w1.heap.size w1 W → W.cell? ⟨w.heap.size, 0, none⟩ = some (.slice a0 L.length c0) ∧ W.cell? ⟨w.heap.size + 1, 0, none⟩ = some (.int .u8 fz)) := by
        intro W hW
        have h7 := HK1.out.stepB hW HK1.out.lt HK1.out.below.size
        have h8 := h7.left.one.1
        have h9 := h7.right.one.1
        exact ⟨h8, h9⟩
      have HOL : Hid (∀ (W : World) (x : Nat), Below w1.heap.size w1 W → x < 4294967296 → Calls Tryz.prog 28 #[.int .u32 x, .pointer (some ⟨w.heap.size + 1, 0, none⟩), .pointer (some ⟨w.heap.size, 0, none⟩)] W fun e w' => e = .returned (.bool (lawOwn fz L.length x)) ∧ Below W.heap.size W w') := by
        intro W x hW hx
        obtain ⟨h8, h9⟩ := HBX.out W hW
        exact own_law h8 h9 hx hfz
      clear HI HM HB HKr r3 r4 hlt hk
      go_wp2
      go_loopg [70] L.length (fun n i wx => ∃ k m : Nat, k ≤ L.length ∧ n = L.length - k ∧ i = .int .i64 (k : Nat) ∧ m ≤ L.length + k ∧ Hid (St w1 p m L.length fr (Fw L fr k) (.slice a8 L.length c8) L.length wx))
      case atStart => exact ⟨0, _, Nat.zero_le _, rfl, rfl, Nat.le_refl _, HST.out⟩
      case round =>
        obtain ⟨k, m, hk, rfl, rfl, hmk, HSX⟩ := hrel
        by_cases hlt : k < L.length
        · obtain ⟨l, hl⟩ : ∃ l, L[k]? = some l := ⟨L[k], List.getElem?_eq_getElem hlt⟩
          obtain rfl : a0 = some ⟨b0, o0, none⟩ := HA.out.resolve_left (by intro h; rw [h] at hlt; cases hlt)
          obtain ⟨x, e0, e1, e2⟩ := HX0.out k l hl
          have hbl := World.block_lt_of_cell? _ _ e0
          have HBw := HK1.out.below
          have HEL : Hid (∀ W, Below w1.heap.size w1 W → W.cell? ⟨b0, o0 + k, none⟩ = some x) := fun W hW => (hW.cell (p := ⟨b0, o0 + k, none⟩) (Nat.lt_of_lt_of_le hbl HBw.size)).trans ((HBw.cell (p := ⟨b0, o0 + k, none⟩) hbl).trans e0)
          have HSL : Hid (∀ W, Below w1.heap.size w1 W → SlC W x l) := fun W hW => (e1.below HBw).below hW
          have HC := Lib.hid e2
          obtain ⟨a1, m1, c1, _, _, _⟩ := e2
          have hlen : m1 = l.length := by
            obtain ⟨_, _, _, _, he, _⟩ := e1
            cases he; rfl
          subst hlen
          have hl20 := HL.out k l hlt hl
          obtain ⟨X, hX⟩ : ∃ X : Nat, X = 2 + k := ⟨_, rfl⟩
          have HFX : Hid (Fw L fr k X = some ⟨true, l, []⟩) := by show _ = _; rw [hX]; exact Fw_at hl
          have hX2 : 2 ≤ X := by omega
          have hXm : X < 4294967296 := by omega
          obtain ⟨g8, rfl⟩ : ∃ g, a8 = some ⟨g, 0, none⟩ := by
            rcases HSX.out.row.2 with ⟨h0, _⟩ | ⟨g, cap, cur, h0, _⟩
            · injection h0 with _ h1 _
              omega
            · injection h0 with h1 _ _
              exact ⟨g, h1⟩
          have i8 : wr.cell? ⟨g8, k, none⟩ = some (.int .u32 (X : Nat)) := by
            rw [hX]
            exact (HSX.out.row.cellAt k (by omega)).trans (idsV_at hlt)
          have hk8 : (k : Int) < (L.length : Int) := by omega
          have HXk := Lib.hid hX
          clear e0 e1 hbl HBw hl hX
          go_upto_region 24 with (go_at_call 29; refine (load_some HSX.out.mem hXm HFX.out (by show l.length ≤ 100000; omega) (Nat.zero_le _)).mono ?_; rintro e wA ⟨v, rfl, hv, hbA⟩; have HSA := Lib.hid (HSX.out.step hbA); have HVA := Lib.hid hv.nd; obtain ⟨vc, vk, rfl, hc, hrk⟩ := hv; obtain ⟨a5, n5, c5, _, _, _⟩ := hc.cap; obtain ⟨a6, n6, c6, _, _, _⟩ := hrk.cap; unfold ndV; clear hbA hc hrk)
          have HS6 := Lib.hid (HSA.out.step ((Below.refl _ _).alloc (Nat.le_refl _) (.cells #[.bool true, .slice a5 n5 c5, .slice a6 n6 c6] 71)))
          have HV6 := Lib.hid (HVA.out.below ((Below.refl _ _).alloc (Nat.le_refl _) (.cells #[.bool true, .slice a5 n5 c5, .slice a6 n6 c6] 71)))
          have HG6 := Lib.hid (Kp.laid (Below.refl _ wA) (Nat.le_refl _) #[.bool true, .slice a5 n5 c5, .slice a6 n6 c6] 71)
          generalize (wA.alloc (.cells #[.bool true, .slice a5 n5 c5, .slice a6 n6 c6] 71)) = W6 at HS6 HV6 HG6 ⊢
          generalize wA.heap.size = g16 at HG6 ⊢
          have hF : Hid (W6.drew.cell? ⟨g16, 0, none⟩ = some (.bool true) ∧ W6.drew.cell? ⟨g16, 1, none⟩ = some (.slice a5 n5 c5) ∧ W6.drew.cell? ⟨g16, 2, none⟩ = some (.slice a6 n6 c6) ∧ W6.drew.cell? ⟨w.heap.size, 0, none⟩ = some (.slice (some ⟨b0, o0, none⟩) L.length c0) ∧ W6.drew.cell? ⟨b0, o0 + k, none⟩ = some (.slice a1 l.length c1) ∧ W6.drew.cell? ⟨w.heap.size + 1, 0, none⟩ = some (.int .u8 fz) ∧ Below W6.heap.size W6 W6.drew) := by
            obtain ⟨⟨q0, q1, q2⟩, _⟩ := HG6.out.three
            exact ⟨q0, q1, q2, (HBX.out _ HS6.out.below.drew).1, HEL.out _ HS6.out.below.drew, (HBX.out _ HS6.out.below.drew).2, (Below.refl _ _).drew⟩
          have HOE2 := HOE.out X hX2
          have HST6 : Hid (∀ W, Below W6.heap.size W6 W → St w1 p m L.length fr (Fw L fr k) (.slice (some ⟨g8, 0, none⟩) L.length c8) L.length W) := fun W hW => HS6.out.step hW
          by_cases hown : fr + 2 ≤ X
          · rw [decide_eq_true hown] at HOE2
            have HOL2 : Hid (∀ W, Below w1.heap.size w1 W → Calls Tryz.prog 28 #[.int .u32 X, .pointer (some ⟨w.heap.size + 1, 0, none⟩), .pointer (some ⟨w.heap.size, 0, none⟩)] W fun e w' => e = .returned (.bool true) ∧ Below W.heap.size W w') := fun W hW => by rw [← HOE2]; exact HOL.out W X hW hXm
            have HMO : Hid (∀ W, Below W6.heap.size W6 W → Calls Tryz.prog 31 #[.pointer (some ⟨p, 0, none⟩), .int .u32 X] W fun e w' => e = .returned (.bool true) ∧ Below W.heap.size W w') := fun W hW => by rw [← decide_eq_true hown]; exact own_some (HST6.out W hW).mem hXm hX2 HFX.out
            clear HOE2
            go_region_held3 (fun w' => w'.cell? ⟨g16, 0, none⟩ = some (.bool true) ∧ w'.cell? ⟨g16, 1, none⟩ = some (.slice a5 n5 c5) ∧ w'.cell? ⟨g16, 2, none⟩ = some (.slice a6 n6 c6) ∧ w'.cell? ⟨w.heap.size, 0, none⟩ = some (.slice (some ⟨b0, o0, none⟩) L.length c0) ∧ w'.cell? ⟨b0, o0 + k, none⟩ = some (.slice a1 l.length c1) ∧ w'.cell? ⟨w.heap.size + 1, 0, none⟩ = some (.int .u8 fz) ∧ Below W6.heap.size W6 w')
              ((first | assumption | exact step6' (Nat.le_refl _) ‹_› hb | exact hF.out))
              (first
              | (go_at_call 27; (refine (from_any true _ l _ (HSL.out _ (HST6.out _ (last6' (by assumption))).below) HC.out (by omega)).mono ?_); rintro e wB ⟨v7, rfl, hv7, hb⟩; have HV7 := Lib.hid hv7; obtain ⟨vc, vk, rfl, _, hcc, _, hkk⟩ := hv7; obtain ⟨a9, n9, c9, _, _, _⟩ := hcc; obtain ⟨a10, n10, c10, _, _, _⟩ := hkk; unfold ndV)
              | (go_at_call 30; (refine (nsame_any _ _ ⟨true, l, []⟩ _ (HV6.out.below (last6' (by assumption))) HV7.out (by show l.length ≤ 100000; omega) (Nat.zero_le _)).mono ?_); rintro e wC ⟨rfl, hb⟩)
              | (go_at_call 31; (refine (HMO.out _ (last6' (by assumption))).mono ?_); rintro e wD ⟨rfl, hb⟩)
              | (go_at_call 28; (refine (HOL2.out _ (HST6.out _ (last6' (by assumption))).below).mono ?_); rintro e wE ⟨rfl, hb⟩))
            rename_i hS
            have HSE := Lib.hid (HST6.out _ (last6' hS))
            clear hS hF
            go_wp2_with (first
              | (go_at_call 28; (with_reducible refine (HOL2.out _ HS5.out.below).mono ?_); rintro e wK ⟨rfl, hbK⟩; have HSK := Lib.hid (HS5.out.step hbK); clear hbK)
              | (go_at_call 29; refine (load_none HS4.out.mem hXm (upd_same _ _ _)).mono ?_; rintro e wJ ⟨rfl, hbJ⟩; have HS5 := Lib.hid ((HS4.out.step hbJ).step ((Below.refl _ _).alloc (Nat.le_refl _) (.cells #[.bool false, .slice none 0 0, .slice none 0 0] 71))); clear hbJ)
              | (go_at_call 33; refine (drop_own HS3.out.mem hXm hX2 (upd_same _ _ _) hown).mono ?_; rintro e wI ⟨rfl, hmI, htI⟩; have HS4 := Lib.hid (HS3.out.turn hmI htI); clear hmI htI)
              | (go_at_call 32; refine (save_own HS2.out.mem (Nat.succ_le_of_lt HS2.out.mem.p_lt) HV2.out (Nat.zero_le _) (Nat.zero_le _) (by omega) hXm hX2 HFX.out hown).mono ?_; rintro e wH ⟨rfl, hmH, htH⟩; have HS3 := Lib.hid (HS2.out.turn hmH htH); clear hmH htH)
              | (go_at_call 27; refine (from_any true (.slice none 0 0) [] _ (SlC.nil _) cap_nil (Nat.zero_le _)).mono ?_; rintro e wG ⟨v7, rfl, hv7, hbG⟩; have HV2 := Lib.hid hv7; have HS2 := Lib.hid (HS1.out.step hbG); obtain ⟨vc, vk, rfl, _, hcc, _, hkk⟩ := hv7; obtain ⟨a11, n11, c11, _, _, _⟩ := hcc; obtain ⟨a12, n12, c12, _, _, _⟩ := hkk; unfold ndV; clear hbG)
              | (go_at_call 28; (with_reducible refine (HOL2.out _ HSE.out.below).mono ?_); rintro e wF ⟨rfl, hbF⟩; have HS1 := Lib.hid (HSE.out.step hbF); clear hbF))
            go_roundg (L.length - (k + 1))
            case measure => omega
            case rel =>
              refine ⟨k + 1, m + 1, hlt, rfl, by go_num, by omega, ?_⟩
              have h := HSK.out
              rw [HXk.out, Fw_own (by have := HXk.out; omega)] at h
              exact h
          · rw [decide_eq_false hown] at HOE2
            have HOL2 : Hid (∀ W, Below w1.heap.size w1 W → Calls Tryz.prog 28 #[.int .u32 X, .pointer (some ⟨w.heap.size + 1, 0, none⟩), .pointer (some ⟨w.heap.size, 0, none⟩)] W fun e w' => e = .returned (.bool false) ∧ Below W.heap.size W w') := fun W hW => by rw [← HOE2]; exact HOL.out W X hW hXm
            have HMO : Hid (∀ W, Below W6.heap.size W6 W → Calls Tryz.prog 31 #[.pointer (some ⟨p, 0, none⟩), .int .u32 X] W fun e w' => e = .returned (.bool false) ∧ Below W.heap.size W w') := fun W hW => by rw [← decide_eq_false hown]; exact own_some (HST6.out W hW).mem hXm hX2 HFX.out
            clear HOE2
            go_region_held3 (fun w' => w'.cell? ⟨g16, 0, none⟩ = some (.bool true) ∧ w'.cell? ⟨g16, 1, none⟩ = some (.slice a5 n5 c5) ∧ w'.cell? ⟨g16, 2, none⟩ = some (.slice a6 n6 c6) ∧ w'.cell? ⟨w.heap.size, 0, none⟩ = some (.slice (some ⟨b0, o0, none⟩) L.length c0) ∧ w'.cell? ⟨b0, o0 + k, none⟩ = some (.slice a1 l.length c1) ∧ w'.cell? ⟨w.heap.size + 1, 0, none⟩ = some (.int .u8 fz) ∧ Below W6.heap.size W6 w')
              ((first | assumption | exact step6' (Nat.le_refl _) ‹_› hb | exact hF.out))
              (first
              | (go_at_call 27; (refine (from_any true _ l _ (HSL.out _ (HST6.out _ (last6' (by assumption))).below) HC.out (by omega)).mono ?_); rintro e wB ⟨v7, rfl, hv7, hb⟩; have HV7 := Lib.hid hv7; obtain ⟨vc, vk, rfl, _, hcc, _, hkk⟩ := hv7; obtain ⟨a9, n9, c9, _, _, _⟩ := hcc; obtain ⟨a10, n10, c10, _, _, _⟩ := hkk; unfold ndV)
              | (go_at_call 30; (refine (nsame_any _ _ ⟨true, l, []⟩ _ (HV6.out.below (last6' (by assumption))) HV7.out (by show l.length ≤ 100000; omega) (Nat.zero_le _)).mono ?_); rintro e wC ⟨rfl, hb⟩)
              | (go_at_call 31; (refine (HMO.out _ (last6' (by assumption))).mono ?_); rintro e wD ⟨rfl, hb⟩)
              | (go_at_call 28; (refine (HOL2.out _ (HST6.out _ (last6' (by assumption))).below).mono ?_); rintro e wE ⟨rfl, hb⟩))
            rename_i hS
            have HSE := Lib.hid (HST6.out _ (last6' hS))
            clear hS hF
            go_wp2_with (first
              | (go_at_call 28; (with_reducible refine (HOL2.out _ (HS5.out _).below).mono ?_); rintro e wK ⟨rfl, hbK⟩; have HSK := Lib.hid ((HS5.out _).step hbK); clear hbK)
              | (go_at_call 29; refine (load_some HS4.out.mem hXm HFX.out (by show l.length ≤ 100000; omega) (Nat.zero_le _)).mono ?_; rintro e wJ ⟨v, rfl, hv, hbJ⟩; have HS5 := Lib.hid (fun o => (HS4.out.step hbJ).step ((Below.refl _ _).alloc (Nat.le_refl _) o)); obtain ⟨vc, vk, rfl, hc, hrk⟩ := hv; obtain ⟨a13, n13, c13, _, _, _⟩ := hc.cap; obtain ⟨a14, n14, c14, _, _, _⟩ := hrk.cap; unfold ndV; clear hbJ hc hrk)
              | (go_at_call 33; refine (drop_old HS3.out.mem hXm hX2 HFX.out hown).mono ?_; rintro e wI ⟨rfl, hbI⟩; have HS4 := Lib.hid (HS3.out.step hbI); clear hbI)
              | (go_at_call 32; refine (save_old HS2.out.mem HV2.out hXm hX2 HFX.out hown).mono ?_; rintro e wH ⟨rfl, hbH⟩; have HS3 := Lib.hid (HS2.out.step hbH); clear hbH)
              | (go_at_call 27; refine (from_any true (.slice none 0 0) [] _ (SlC.nil _) cap_nil (Nat.zero_le _)).mono ?_; rintro e wG ⟨v7, rfl, hv7, hbG⟩; have HV2 := Lib.hid hv7; have HS2 := Lib.hid (HS1.out.step hbG); obtain ⟨vc, vk, rfl, _, hcc, _, hkk⟩ := hv7; obtain ⟨a11, n11, c11, _, _, _⟩ := hcc; obtain ⟨a12, n12, c12, _, _, _⟩ := hkk; unfold ndV; clear hbG)
              | (go_at_call 28; (with_reducible refine (HOL2.out _ HSE.out.below).mono ?_); rintro e wF ⟨rfl, hbF⟩; have HS1 := Lib.hid (HSE.out.step hbF); clear hbF))
            go_roundg (L.length - (k + 1))
            case measure => omega
            case rel =>
              refine ⟨k + 1, m, hlt, rfl, by go_num, by omega, ?_⟩
              have h := HSK.out
              rw [Fw_old (by have := HXk.out; omega)] at h
              exact h
        · obtain rfl : k = L.length := by omega
          have HOE3 := HOE.out id
          have wid : IntKind.i64.wrap (id : Int) = (id : Int) := by rw [IntKind.wrap_i64]; omega
          have wln : IntKind.i64.wrap (2 + (L.length : Int)) = 2 + (L.length : Int) := by rw [IntKind.wrap_i64]; omega
          by_cases hth : (2 ≤ id ∧ id < 2 + L.length) ∧ ¬ fr + 2 ≤ id
          · obtain ⟨⟨h2, h3⟩, h4⟩ := hth
            obtain ⟨l, hl⟩ : ∃ l, L[id - 2]? = some l := ⟨L[id - 2], List.getElem?_eq_getElem (by omega)⟩
            have HFI : Hid (Fw L fr L.length id = some ⟨true, l, []⟩) := by
              show Fw L fr L.length id = _
              unfold Fw
              rw [if_pos ⟨h2, h3, fun h5 => absurd h5 h4⟩, hl]; rfl
            have hl20 := HL.out (id - 2) l (by omega) hl
            have hoe := HOE3 h2
            rw [decide_eq_false h4] at hoe
            have HOL3 : Hid (∀ W, Below w1.heap.size w1 W → Calls Tryz.prog 28 #[.int .u32 id, .pointer (some ⟨w.heap.size + 1, 0, none⟩), .pointer (some ⟨w.heap.size, 0, none⟩)] W fun e w' => e = .returned (.bool false) ∧ Below W.heap.size W w') := fun W hW => by rw [← hoe]; exact HOL.out W id hW hid
            have i1 : (2 : Int) ≤ (id : Int) := by omega
            have i2 : (id : Int) < 2 + (L.length : Int) := by omega
            have b9 := HBX.out _ HSX.out.below
            have b8 := b9.1
            clear hl hoe HOE3 b9
            go_wp2_with (first
              | (go_at_call 33; refine (drop_old (HS5.out _).mem hid h2 HFI.out h4).mono ?_; rintro e wL ⟨rfl, hbL⟩; have HS6 := Lib.hid ((HS5.out _).step hbL); clear hbL)
              | (go_at_call 29; refine (load_some HS1.out.mem hid HFI.out (by show l.length ≤ 100000; omega) (Nat.zero_le _)).mono ?_; rintro e wJ ⟨v, rfl, hv, hbJ⟩; have HS5 := Lib.hid (fun o => (HS1.out.step hbJ).step ((Below.refl _ _).alloc (Nat.le_refl _) o)); obtain ⟨vc, vk, rfl, hc, hrk⟩ := hv; obtain ⟨a13, n13, c13, _, _, _⟩ := hc.cap; obtain ⟨a14, n14, c14, _, _, _⟩ := hrk.cap; unfold ndV; clear hbJ hc hrk)
              | (go_at_call 28; (with_reducible refine (HOL3.out _ HSX.out.below).mono ?_); rintro e wF ⟨rfl, hbF⟩; have HS1 := Lib.hid (HSX.out.step hbF); clear hbF))
            go_ret
            exact ⟨rfl, HK1.out.below.trans (HS6.out.below.mono HK1.out.below.size)⟩
          · have HFI : Hid (Fw L fr L.length id = none) := by
              show Fw L fr L.length id = _
              unfold Fw
              rw [if_neg (fun ⟨h5, h6, h7⟩ => hth ⟨⟨h5, h6⟩, fun h8 => by have := h7 h8; omega⟩)]
            have b9 := HBX.out _ HSX.out.below
            have b8 := b9.1
            clear b9
            by_cases h2 : 2 ≤ id
            · have i1 : (2 : Int) ≤ (id : Int) := by omega
              by_cases h3 : id < 2 + L.length
              · have i2 : (id : Int) < 2 + (L.length : Int) := by omega
                have h4 : fr + 2 ≤ id := by
                  by_cases h8 : fr + 2 ≤ id
                  · exact h8
                  · exact absurd ⟨⟨h2, h3⟩, h8⟩ hth
                have hoe := HOE3 h2
                rw [decide_eq_true h4] at hoe
                have HOL3 : Hid (∀ W, Below w1.heap.size w1 W → Calls Tryz.prog 28 #[.int .u32 id, .pointer (some ⟨w.heap.size + 1, 0, none⟩), .pointer (some ⟨w.heap.size, 0, none⟩)] W fun e w' => e = .returned (.bool true) ∧ Below W.heap.size W w') := fun W hW => by rw [← hoe]; exact HOL.out W id hW hid
                clear hoe HOE3 hth
                go_wp2_with (first
                  | (go_at_call 32; refine (save_none HS6.out.mem (nd := ⟨false, [], []⟩) ⟨_, _, rfl, SlC.nil _, cap_nil, SlK.nil _, cap_nil⟩ hid HFI.out).mono ?_; rintro e wM ⟨rfl, hbM⟩; have HS7 := Lib.hid (HS6.out.step hbM); clear hbM)
                  | (go_at_call 33; refine (drop_none HS5.out.mem hid HFI.out).mono ?_; rintro e wL ⟨rfl, hbL⟩; have HS6 := Lib.hid (HS5.out.step hbL); clear hbL)
                  | (go_at_call 29; refine (load_none HS1.out.mem hid HFI.out).mono ?_; rintro e wJ ⟨rfl, hbJ⟩; have HS5 := Lib.hid ((HS1.out.step hbJ).step ((Below.refl _ _).alloc (Nat.le_refl _) (.cells #[.bool false, .slice none 0 0, .slice none 0 0] 71))); clear hbJ)
                  | (go_at_call 28; (with_reducible refine (HOL3.out _ HSX.out.below).mono ?_); rintro e wF ⟨rfl, hbF⟩; have HS1 := Lib.hid (HSX.out.step hbF); clear hbF))
                go_ret
                exact ⟨rfl, HK1.out.below.trans (HS7.out.below.mono HK1.out.below.size)⟩
              · have i2 : ¬ (id : Int) < 2 + (L.length : Int) := by omega
                have HS1 := HSX
                clear HOE3 hth
                go_wp2_with (first
                  | (go_at_call 32; refine (save_none HS6.out.mem (nd := ⟨false, [], []⟩) ⟨_, _, rfl, SlC.nil _, cap_nil, SlK.nil _, cap_nil⟩ hid HFI.out).mono ?_; rintro e wM ⟨rfl, hbM⟩; have HS7 := Lib.hid (HS6.out.step hbM); clear hbM)
                  | (go_at_call 33; refine (drop_none HS5.out.mem hid HFI.out).mono ?_; rintro e wL ⟨rfl, hbL⟩; have HS6 := Lib.hid (HS5.out.step hbL); clear hbL)
                  | (go_at_call 29; refine (load_none HS1.out.mem hid HFI.out).mono ?_; rintro e wJ ⟨rfl, hbJ⟩; have HS5 := Lib.hid ((HS1.out.step hbJ).step ((Below.refl _ _).alloc (Nat.le_refl _) (.cells #[.bool false, .slice none 0 0, .slice none 0 0] 71))); clear hbJ))
                go_ret
                exact ⟨rfl, HK1.out.below.trans (HS7.out.below.mono HK1.out.below.size)⟩
            · have i1 : ¬ (2 : Int) ≤ (id : Int) := by omega
              have HS1 := HSX
              clear HOE3 hth
              go_wp2_with (first
                | (go_at_call 32; refine (save_none HS6.out.mem (nd := ⟨false, [], []⟩) ⟨_, _, rfl, SlC.nil _, cap_nil, SlK.nil _, cap_nil⟩ hid HFI.out).mono ?_; rintro e wM ⟨rfl, hbM⟩; have HS7 := Lib.hid (HS6.out.step hbM); clear hbM)
                | (go_at_call 33; refine (drop_none HS5.out.mem hid HFI.out).mono ?_; rintro e wL ⟨rfl, hbL⟩; have HS6 := Lib.hid (HS5.out.step hbL); clear hbL)
                | (go_at_call 29; refine (load_none HS1.out.mem hid HFI.out).mono ?_; rintro e wJ ⟨rfl, hbJ⟩; have HS5 := Lib.hid ((HS1.out.step hbJ).step ((Below.refl _ _).alloc (Nat.le_refl _) (.cells #[.bool false, .slice none 0 0, .slice none 0 0] 71))); clear hbJ))
              go_ret
              exact ⟨rfl, HK1.out.below.trans (HS7.out.below.mono HK1.out.below.size)⟩
end Go.Proofs.YtdgcdekgleegbaaGreat
/- Bounds of a small number that is handed in. -/
namespace Go.Proofs.YtdgcdekgleegbaaGreat
open Go.RowKit
theorem bounds_u8b {q : Int} (h : (Lit.int .u8 q).wf = true) : 0 ≤ q ∧ q < 256 := by
  simp [Lit.wf, IntKind.min, IntKind.max, IntKind.signed, IntKind.bits] at h
  omega
end Go.Proofs.YtdgcdekgleegbaaGreat
namespace Go.Proofs.YtdgcdekgleegbaaGreat.treeSpaces
open Go.ChangeShapes Go.WideShapes Go.ChangeAt Go.RowKit
open Go.ChangeMaps (open_string shut_string)
theorem own : ownKnob Tryz.prog.godebug = none := by kernel_rfl
theorem laidOut : laidOutB Tryz.prog = true := by kernel_rfl
set_option maxRecDepth 100000 in
theorem lifted (os : Os) (started : os.Started) (H : Type) (enc : TypeId × Value → H) :
    ReturnsInHanded {} Tryz.checked os 5 .any (Rows.treeSpacesSpec.pre6 enc Tryz.prog Tryz.f5 Rows.treeSpacesRow.domain false) (Rows.treeSpacesSpec.post enc Tryz.prog Tryz.f5 false true false false) := by
  refine returnsInHanded_of_change (C := Tryz.checked) own started (by kernel_rfl) Tryz.func5
    (ChangeSpec.witness6 (enc := enc) (C := Tryz.checked) false ⟨#[], #[.slice none 0 0, .int .u8 0, .int .u32 0], []⟩ 8 (by kernel_rfl) (by kernel_rfl) (by kernel_rfl) (by kernel_rfl)) ?_
  intro W base args ds gs before hval0 hW hcnd _
  have hval : ∀ (j : Nat) t v, Tryz.f5.params[j]? = some t → args[j]? = some v → Value.okWide Tryz.prog W .any base t v := hval0
  have hW' := hW
  obtain ⟨p, q, hA0, hV, rfl, hfz, hnd⟩ := hW
  have hA : DataW.TrodAll enc Tryz.prog W 0 (fun _ => true) true Tryz.f5.params.toList args.toList ds p := hA0
  rw [Tryz.params5] at hA hval
  obtain ⟨v0, vs0, d0, ds0, p0, q0, hargs, rfl, rfl, h0, r0⟩ := trodAll_cons hA
  obtain ⟨v1, vs1, d1, ds1, p1, q1, rfl, rfl, rfl, h1, r1⟩ := trodAll_cons r0
  obtain ⟨v2, vs2, d2, ds2, p2, q2, rfl, rfl, rfl, h2, r2⟩ := trodAll_cons r1
  obtain ⟨rfl, rfl, rfl⟩ := trodAll_nil r2
  obtain rfl : args = #[v0, v1, v2] := by cases args; simp_all
  obtain ⟨rfl, rfl⟩ := trodVars_none hV
  have k0 := h0
  have lt0 : ∀ x ∈ p0, x.block < W.heap.size := by obtain ⟨m, hm⟩ := k0; exact DataW.trod_lt m _ _ _ hm
  have k1 := h1
  have lt1 : ∀ x ∈ p1, x.block < W.heap.size := by obtain ⟨m, hm⟩ := k1; exact DataW.trod_lt m _ _ _ hm
  have k2 := h2
  have lt2 : ∀ x ∈ p2, x.block < W.heap.size := by obtain ⟨m, hm⟩ := k2; exact DataW.trod_lt m _ _ _ hm
  have hv0 := hval 0 66 v0 rfl rfl
  obtain ⟨a1, rfl, _, _, w1⟩ := open_int Tryz.underlying5 (hval 1 5 v1 rfl rfl) h1
  obtain ⟨a2, rfl, _, _, w2⟩ := open_int Tryz.underlying28 (hval 2 28 v2 rfl rfl) h2
  obtain ⟨L, hm, _, hs⟩ := open_rows hv0 h0
  obtain ⟨f1, f2⟩ := bounds_u8b w1
  obtain ⟨fz, rfl⟩ := Int.eq_ofNat_of_zero_le f1
  obtain ⟨j1, j2⟩ := bounds_u32 w2
  obtain ⟨id, rfl⟩ := Int.eq_ofNat_of_zero_le j1
  clear hA0 hval0
  refine ((fun _ => spaces_walk v0 L fz id (by omega) (by omega) W hs hm) W).mono fun e W' ⟨he, bel⟩ => ?_
  subst he
  exact ⟨_, rfl, _, _, _, [], _, [], hW', trodAll_mk1 (shut_bool Tryz.underlying4 _), (trodAll_cons_mk (Below.trod laidOut (by kernel_rfl) (of_decide_eq_true (by kernel_rfl)) k0 bel lt0) (trodAll_cons_mk (Below.trod laidOut (by kernel_rfl) (of_decide_eq_true (by kernel_rfl)) k1 bel lt1) (trodAll_cons_mk (Below.trod laidOut (by kernel_rfl) (of_decide_eq_true (by kernel_rfl)) k2 bel lt2) trodAll_mk0))), rfl, bel.frame _, fun h => by cases h⟩
theorem over : Rows.treeSpacesRow.holds Tryz.pinned (OpenSpec.ofChange Rows.treeSpacesSpec) :=
  OpenClaim.holds_of_wide 5 Tryz.f5 rfl rfl rfl rfl rfl rfl rfl ⟨rfl, rfl, rfl, rfl, rfl⟩ rfl rfl rfl rfl rfl (by kernel_rfl) Tryz.func5 (by kernel_rfl)
    (of_decide_eq_true (by kernel_rfl)) (by unfold Func.isWrapper; first | (rw [if_pos (by decide +kernel)]; kernel_rfl) | (rw [if_neg (by decide +kernel)]; exact ⟨rfl, rfl⟩))
    (fun os started H enc _ => lifted os started H enc)
theorem proved : Rows.TreeSpacesSaid := over
#print axioms proved
end Go.Proofs.YtdgcdekgleegbaaGreat.treeSpaces
