/- Texts of one seat, merged. -/
import Derived.Test.YtdgcdekgleegbaaGreatS13
import Derived.Test.YtdgcdekgleegbaaGreatS14
import Derived.Deep.DeepCutAuto
import Derived.Test.YtdgcdekgleegbaaGreatS03
import Derived.Test.YtdgcdekgleegbaaGreatS10
import Derived.Test.YtdgcdekgleegbaaGreatS11
import Derived.Test.YtdgcdekgleegbaaGreatS02
import Derived.BigQuiet
import Derived.Deep.QuietTactic
import Derived.Deep.LoopGhost
import Derived.Test.YtdgcdekgleegbaaGreatS04
set_option maxRecDepth 100000
set_option maxHeartbeats 4000000
set_option linter.unusedVariables false
/- Put of a cell into an empty tree. -/
namespace Go.Proofs.YtdgcdekgleegbaaGreat
open Go.RowKit Go.Maps
open Sl (Cl Kd Nd Rn)
def xcl (x : Cl) : Array Value := #[.string (str x.key), .string (str x.val), .int .u32 x.chain, .int .u32 x.long]
theorem start_put (w : World) (x : Cl) : Kp w.heap.size w (row1 w.heap.size (xcl x) ++ row1 (w.heap.size + 1) zcl) ((w.alloc (.cells #[.string (str x.key), .string (str x.val), .int .u32 x.chain, .int .u32 x.long] 32)).alloc (.cells #[.string ⟨#[]⟩, .string ⟨#[]⟩, .int .u32 0, .int .u32 0] 32)) := by
  have h0 := Kp.laid (Below.refl _ w) (Nat.le_refl _) (xcl x) 32
  have h2 := h0.more (Nat.le_refl _) zcl 32
  have hS : (w.alloc (.cells (xcl x) 32)).heap.size = w.heap.size + 1 := by simp
  rw [hS] at h2
  exact h2
theorem slOne (W : World) (x : Cl) : SlC (W.alloc (.cells #[.string (str x.key), .string (str x.val), .int .u32 x.chain, .int .u32 x.long] 32)) (.slice (some ⟨W.heap.size, 0, none⟩) 1 1) [x] := by
  refine ⟨_, W.heap.size, 0, 1, rfl, .inr rfl, fun j z hj => ?_⟩
  have hj2 : j < 1 := (List.getElem?_eq_some_iff.1 hj).1
  obtain rfl : j = 0 := by omega
  simp at hj; subst hj
  exact ⟨World.cell?_alloc_new W _ _ 0, World.cell?_alloc_new W _ _ 1, World.cell?_alloc_new W _ _ 2, World.cell?_alloc_new W _ _ 3⟩
theorem setCell_self {w : World} {b i : Nat} {v : Value} (h : w.cell? ⟨b, i, none⟩ = some v) : w.setCell ⟨b, i, none⟩ v = w := by
  obtain ⟨hp, tp, dr, os, out⟩ := w
  simp only [World.setCell, World.mk.injEq, and_true]
  apply Array.ext_getElem?
  intro k
  rw [Array.getElem?_modify]
  by_cases hk : b = k
  · subst hk
    simp only [World.cell?] at h
    rw [if_pos rfl]
    cases ho : hp[b]? with
    | none => rfl
    | some o =>
      rw [ho] at h
      cases o with
      | cells c e fr =>
        simp at h
        simp only [Option.map_some, Option.isSome_none, Bool.false_eq_true, if_false, Option.some.injEq, Obj.cells.injEq, and_true]
        apply Array.ext_getElem?
        intro j
        rw [Array.getElem?_setIfInBounds]
        split
        · rename_i hj; subst hj
          split
          · exact h.symm
          · rename_i hj; rw [Array.getElem?_eq_none (by omega)]
        · rfl
      | _ => rfl
  · rw [if_neg hk]
theorem Kp.lt {B : Nat} {w0 w : World} {L : List (Addr × Value)} (h : Kp B w0 L w) : ∀ p ∈ L, p.1.block < w.heap.size := fun p hp => World.block_lt_of_cell? _ _ (h.cell p hp)
theorem Kp.put3 {B : Nat} {w0 w : World} {L : List (Addr × Value)} {g : Nat} {u0 u1 u2 : Value} (h : Kp B w0 (L ++ row1 g #[u0, u1, u2]) w) (hg : B ≤ g) (hL : ∀ p ∈ L, p.1.block < g) (x0 x1 x2 : Value) : Kp B w0 (L ++ row1 g #[x0, x1, x2]) (((w.setCell ⟨g, 0, none⟩ x0).setCell ⟨g, 1, none⟩ x1).setCell ⟨g, 2, none⟩ x2) := by
  have hb : Below g w (((w.setCell ⟨g, 0, none⟩ x0).setCell ⟨g, 1, none⟩ x1).setCell ⟨g, 2, none⟩ x2) := (((Below.refl _ _).setCell (p := ⟨g, 0, none⟩) (Nat.le_refl _) _).setCell (p := ⟨g, 1, none⟩) (Nat.le_refl _) _).setCell (p := ⟨g, 2, none⟩) (Nat.le_refl _) _
  have h1 := h.left.stepB hb hL hg
  obtain ⟨⟨c0, c1, c2⟩, f0, f1, f2⟩ := h.right.three
  have o : ∀ (W : World) (p q : Addr) (x : Value), p ≠ q → (W.setCell p x).cell? q = W.cell? q := fun W p q x h => World.cell?_setCell_other _ _ _ _ h
  have i0 : (w.cell? ⟨g, 0, none⟩).isSome = true := by rw [c0]; rfl
  have i1 : (w.cell? ⟨g, 1, none⟩).isSome = true := by rw [c1]; rfl
  have i2 : (w.cell? ⟨g, 2, none⟩).isSome = true := by rw [c2]; rfl
  have d0 : (((w.setCell ⟨g, 0, none⟩ x0).setCell ⟨g, 1, none⟩ x1).setCell ⟨g, 2, none⟩ x2).cell? ⟨g, 0, none⟩ = some x0 := by
    rw [o _ _ _ _ (by simp), o _ _ _ _ (by simp)]
    exact World.cell?_setCell_same' _ _ _ i0
  have d1 : (((w.setCell ⟨g, 0, none⟩ x0).setCell ⟨g, 1, none⟩ x1).setCell ⟨g, 2, none⟩ x2).cell? ⟨g, 1, none⟩ = some x1 := by
    rw [o _ _ _ _ (by simp)]
    exact World.cell?_setCell_same' _ _ _ (isSome_set i1)
  have d2 : (((w.setCell ⟨g, 0, none⟩ x0).setCell ⟨g, 1, none⟩ x1).setCell ⟨g, 2, none⟩ x2).cell? ⟨g, 2, none⟩ = some x2 := World.cell?_setCell_same' _ _ _ (isSome_set (isSome_set i2))
  have f : ∀ a, (((w.setCell ⟨g, 0, none⟩ x0).setCell ⟨g, 1, none⟩ x1).setCell ⟨g, 2, none⟩ x2).frozen? a = w.frozen? a := fun a => by rw [World.frozen?_setCell, World.frozen?_setCell, World.frozen?_setCell]
  refine h1.both ⟨fun q hq => ?_, fun q hq => ?_, h1.below⟩
  · simp [row1] at hq
    obtain ⟨i, hi, rfl⟩ := hq
    match i, hi with
    | 0, _ => exact d0
    | 1, _ => exact d1
    | 2, _ => exact d2
  · simp [row1] at hq
    obtain ⟨i, hi, rfl⟩ := hq
    rw [f]
    match i, hi with
    | 0, _ => exact f0
    | 1, _ => exact f1
    | 2, _ => exact f2
theorem Off.froz {S : Nat → Prop} {q i : Nat} {w w' : World} (h : Off S w w') (hq : ¬ S q) (hlt : q < w.heap.size) : w'.frozen? ⟨q, i, none⟩ = w.frozen? ⟨q, i, none⟩ := by
  have := h.block q hlt hq
  simp only [World.frozen?]
  rw [this]
theorem NdV.put3 {w : World} {g : Nat} {u0 u1 u2 : Value} {v : Value} {n : Nd} (h : NdV w v n) (h0 : w.cell? ⟨g, 0, none⟩ = some u0) (h1 : w.cell? ⟨g, 1, none⟩ = some u1) (h2 : w.cell? ⟨g, 2, none⟩ = some u2) (p0 : plainV u0 = true) (p1 : plainV u1 = true) (p2 : plainV u2 = true) (x0 x1 x2 : Value) : NdV (((w.setCell ⟨g, 0, none⟩ x0).setCell ⟨g, 1, none⟩ x1).setCell ⟨g, 2, none⟩ x2) v n := by
  obtain ⟨vc, vk, hv, hc, hcc, hk, hkk⟩ := h
  exact ⟨vc, vk, hv, hc.box3 h0 h1 h2 p0 p1 p2 _ _ _, hcc, hk.box3 h0 h1 h2 p0 p1 p2 _ _ _, hkk⟩
theorem put_empty {w : World} {q p b B n made frozen : Nat} {F : Nat → Option Nd} (h : TS w q p b B n made frozen 0 F) (hB : B ≤ w.heap.size) (x : Cl) (hok : okC x) (hbody : (Sl.bodyR Sl.shC [x]).2 = 0) (hm : made ≤ 1000000) (hn : n ≤ 1000000) :
    Calls Tryz.prog 18 #[.pointer (some ⟨q, 0, none⟩), .agg #[.string (str x.key), .string (str x.val), .int .u32 x.chain, .int .u32 x.long]] w fun e w' => e = .returned (.tuple #[.agg #[.string ⟨#[]⟩, .string ⟨#[]⟩, .int .u32 0, .int .u32 0], .bool false, .int .i64 0]) ∧ TS w' q p b B (n + 1) (made + 1) frozen (2 + made) (upd F (2 + made) (some ⟨true, Sl.putL Sl.shC [] x, []⟩)) ∧ Off (fun k => k = p ∨ k = b ∨ k = q) w w' := by
  have HLV := Lib.hid (fun W => leaves_any W)
  have HBD := Lib.hid (fun W v (hv : SlC W v [x]) => bodyC_any v [x] (by simp) (by intro y hy; simp at hy; subst hy; exact hok) W hv)
  rw [hbody] at HBD
  have HT := Lib.hid (fun W (hW : Below w.heap.size w W) => h.below hW)
  have HST := Lib.hid (start_put w x)
  have hnil := fun W => tree_not_nil W q
  have hkx := HST.out.left
  unfold shpC at HLV HBD
  generalize (Sl.bodyR Sl.shC [x]).1 = bd at HBD
  have HPQ : Hid (p < w.heap.size ∧ b < w.heap.size ∧ q < w.heap.size) := ⟨h.mem.p_lt, h.mem.b_lt, h.tr.lt⟩
  clear h hok hbody
  go_enter Tryz.func18, Tryz.ntmps18
  go_upto_region 3 with fail
  generalize ((w.alloc (.cells #[.string (str x.key), .string (str x.val), .int .u32 x.chain, .int .u32 x.long] 32)).alloc (.cells #[.string ⟨#[]⟩, .string ⟨#[]⟩, .int .u32 0, .int .u32 0] 32)) = W0 at HST hkx ⊢
  go_cut [7, 8] (fun p7 p8 wx => p7 = .string (str bd) ∧ p8 = .int .i64 0 ∧ Hid (Kp w.heap.size w (row1 w.heap.size #[.string (str x.key), .string (str x.val), .int .u32 x.chain, .int .u32 x.long] ++ row1 (w.heap.size + 1) #[.string ⟨#[]⟩, .string ⟨#[]⟩, .int .u32 0, .int .u32 0]) wx))
  case first =>
    have HKD := Lib.hid HST.out.drew
    have HS1 : Hid (SlC (W0.drew.alloc (.cells #[.string (str x.key), .string (str x.val), .int .u32 x.chain, .int .u32 x.long] 32)) (.slice (some ⟨W0.heap.size, 0, none⟩) 1 1) [x]) := slOne W0.drew x
    have HKA := Lib.hid (HKD.out.step (Nat.le_refl _) ((Below.refl _ _).alloc (Nat.le_refl _) (.cells #[.string (str x.key), .string (str x.val), .int .u32 x.chain, .int .u32 x.long] 32)))
    obtain ⟨⟨c0, c1, c2, c3⟩, _⟩ := HKD.out.left.four
    go_region_with (first
      | (go_at_call 55; (with_reducible refine (HLV.out _).mono ?_); rintro e w1 ⟨rfl, hb1⟩; first
          | (have HK1 := Lib.hid (HKD.out.step (Nat.le_refl _) hb1); have HV1 := Lib.hid (slOne w1 x); have HK2 := Lib.hid (HK1.out.step (Nat.le_refl _) ((Below.refl _ _).alloc (Nat.le_refl _) (.cells #[.string (str x.key), .string (str x.val), .int .u32 x.chain, .int .u32 x.long] 32))); obtain ⟨⟨d0, d1, d2, d3⟩, _⟩ := HK1.out.left.four; clear hb1)
          | (have HV1 := Lib.hid (HS1.out.below hb1); have HK2 := Lib.hid (HKA.out.step (Nat.le_refl _) hb1); clear hb1))
      | (go_at_call 56; (with_reducible refine (HBD.out _ _ HV1.out).mono ?_); rintro e w2 ⟨rfl, hb2⟩; have HK3 := Lib.hid (HK2.out.step (Nat.le_refl _) hb2); clear hb2))
    all_goals (go_wp2_with fail; go_meet; exact ⟨rfl, rfl, HK3⟩)
  case rest =>
    obtain ⟨rfl, rfl, HK3⟩ := hcut
    clear HST hkx
    have HW3 := Lib.hid (fun W (hW : Below w.heap.size w W) => way_empty (HT.out W hW).tr x.key)
    obtain ⟨⟨c0, c1, c2, c3⟩, _⟩ := HK3.out.left.four
    go_upto_region 9 with (go_at_call 46; refine (HW3.out _ HK3.out.below).mono ?_; rintro e w3 ⟨rfl, rfl⟩)
    clear HW3 c0 c1 c2 c3 hnil
    have HBN := Lib.hid (fun W => bottom_nil W)
    have HFN : Hid (∀ W, Calls Tryz.prog 50 #[.agg #[.bool true, .slice none 0 0, .slice none 0 0], .string (str x.key)] W fun e w' => e = .returned (.tuple #[.agg #[.string ⟨#[]⟩, .string ⟨#[]⟩, .int .u32 0, .int .u32 0], .bool false]) ∧ Below W.heap.size W w') := fun W => find_both (ndV true (.slice none 0 0) (.slice none 0 0)) ⟨true, [], []⟩ x.key W ⟨_, _, rfl, SlC.nil _, cap_nil, SlK.nil _, cap_nil⟩ (by simp) rfl false rfl ⟨[], [], 0, 0⟩ rfl
    unfold ndV at HBN
    generalize hL : (row1 w.heap.size #[.string (str x.key), .string (str x.val), .int .u32 x.chain, .int .u32 x.long] ++ row1 (w.heap.size + 1) #[.string ⟨#[]⟩, .string ⟨#[]⟩, .int .u32 0, .int .u32 0]) = L at HK3
    have HLL := Lib.hid hL
    have HX : Hid (∀ W, Kp w.heap.size w L W → W.cell? ⟨w.heap.size, 0, none⟩ = some (.string (str x.key))) := fun W hW => by rw [← hL] at hW; exact hW.left.four.1.1
    clear hL
    go_cut [11, 12] (fun p11 p12 wx => ∃ g, p11 = .pointer (some ⟨g, 0, none⟩) ∧ p12 = .bool false ∧ Hid (w.heap.size ≤ g) ∧ Hid (Kp w.heap.size w (L ++ row1 g #[.string ⟨#[]⟩, .string ⟨#[]⟩, .int .u32 0, .int .u32 0]) wx))
    case first =>
      have HKD := Lib.hid HK3.out.drew
      have HKA : Hid (Kp w.heap.size w (L ++ row1 wc.heap.size #[.string ⟨#[]⟩, .string ⟨#[]⟩, .int .u32 0, .int .u32 0]) (wc.drew.alloc (.cells #[.string ⟨#[]⟩, .string ⟨#[]⟩, .int .u32 0, .int .u32 0] 32))) := HKD.out.more (Nat.le_refl _) #[.string ⟨#[]⟩, .string ⟨#[]⟩, .int .u32 0, .int .u32 0] 32
      have hgl : w.heap.size < wc.heap.size := World.block_lt_of_cell? _ _ (HX.out _ HK3.out)
      have l0 := HX.out _ HKD.out
      have l1 : ∀ o, (wc.alloc o).drew.cell? ⟨w.heap.size, 0, none⟩ = some (.string (str x.key)) := fun o => HX.out _ (HKD.out.step (Nat.le_refl _) ((Below.refl _ _).alloc (Nat.le_refl _) o))
      have l2 : ∀ o, (wc.alloc o).cell? ⟨w.heap.size, 0, none⟩ = some (.string (str x.key)) := fun o => HX.out _ (HK3.out.step (Nat.le_refl _) ((Below.refl _ _).alloc (Nat.le_refl _) o))
      go_region_with (first
        | (go_at_call 47; (with_reducible refine (HBN.out _).mono ?_); rintro e w1 ⟨rfl, hb1⟩; first
            | (have HK1 := Lib.hid (HKA.out.step (Nat.le_refl _) hb1); have m0 := HX.out _ HK1.out.left; clear hb1)
            | (have HK1 := Lib.hid (HKD.out.step (Nat.le_refl _) hb1); have m0 := HX.out _ HK1.out; have HK1A := Lib.hid (HK1.out.more (Nat.le_refl _) #[.string ⟨#[]⟩, .string ⟨#[]⟩, .int .u32 0, .int .u32 0] 32); have m1 := fun o => HX.out _ (HK1.out.step (Nat.le_refl _) ((Below.refl _ _).alloc (Nat.le_refl _) o)); clear hb1))
        | (go_at_call 50; (with_reducible refine (HFN.out _).mono ?_); rintro e w2 ⟨rfl, hb2⟩; first
            | (have HK2 := Lib.hid (HK1A.out.step (Nat.le_refl _) hb2); obtain ⟨⟨n0, n1, n2, n3⟩, n4, n5, n6, n7⟩ := HK2.out.right.four; clear hb2)
            | (have HK2 := Lib.hid (HK1.out.step (Nat.le_refl _) hb2); obtain ⟨⟨n0, n1, n2, n3⟩, n4, n5, n6, n7⟩ := HK2.out.right.four; clear hb2)
            | (have HK2 := Lib.hid (HK1.out.step (Nat.le_refl _) hb2); have HK2A := Lib.hid (HK2.out.more (Nat.le_refl _) #[.string ⟨#[]⟩, .string ⟨#[]⟩, .int .u32 0, .int .u32 0] 32); clear hb2)))
      all_goals
        go_wp2_with fail
        go_meet
        first
          | exact ⟨_, rfl, rfl, Lib.hid HK2.out.below.size, HK2A⟩
          | (refine ⟨_, rfl, rfl, Lib.hid (Nat.le_trans HKD.out.below.size (Nat.le_refl _)), ?_⟩; rw [setCell_self n0, setCell_self n1, setCell_self n2, setCell_self n3]; exact HK2)
          | (refine ⟨_, rfl, rfl, Lib.hid HK1.out.below.size, ?_⟩; rw [setCell_self n0, setCell_self n1, setCell_self n2, setCell_self n3]; exact HK2)
    case rest =>
      obtain ⟨g, rfl, rfl, HG, HK9⟩ := hcut
      have HPT : Hid (∀ W, Calls Tryz.prog 57 #[.agg #[.bool true, .slice none 0 0, .slice none 0 0], .agg #[.string (str x.key), .string (str x.val), .int .u32 x.chain, .int .u32 x.long]] W (RetN ⟨true, Sl.putL Sl.shC [] x, []⟩ W)) := fun W => putC_any (ndV true (.slice none 0 0) (.slice none 0 0)) ⟨true, [], []⟩ x W ⟨_, _, rfl, SlC.nil _, cap_nil, SlK.nil _, cap_nil⟩ rfl (by simp) rfl
      have HX4 : Hid (∀ W, Kp w.heap.size w L W → W.cell? ⟨w.heap.size, 0, none⟩ = some (.string (str x.key)) ∧ W.cell? ⟨w.heap.size, 1, none⟩ = some (.string (str x.val)) ∧ W.cell? ⟨w.heap.size, 2, none⟩ = some (.int .u32 x.chain) ∧ W.cell? ⟨w.heap.size, 3, none⟩ = some (.int .u32 x.long)) := fun W hW => by rw [← HLL.out] at hW; exact hW.left.four.1
      have HNL : Hid ((⟨true, Sl.putL Sl.shC [] x, []⟩ : Nd).cs.length ≤ 100000 ∧ (⟨true, Sl.putL Sl.shC [] x, []⟩ : Nd).ks.length ≤ 100000) := ⟨by show (Sl.putL Sl.shC [] x).length ≤ 100000; simp [Sl.putL, Sl.there, Sl.place], by simp⟩
      generalize hnd : (⟨true, Sl.putL Sl.shC [] x, []⟩ : Nd) = nd at HPT HNL ⊢
      have HND := Lib.hid hnd
      clear hnd
      go_upto_region 10 with fail
      go_cut [13] (fun p13 wx => ∃ g2 a5 n5 c5 a6 n6 c6, p13 = .pointer (some ⟨g2, 0, none⟩) ∧ Hid (w.heap.size ≤ g2) ∧ Hid (Kp w.heap.size w (L ++ row1 g #[.string ⟨#[]⟩, .string ⟨#[]⟩, .int .u32 0, .int .u32 0] ++ row1 g2 #[.bool nd.leaf, .slice a5 n5 c5, .slice a6 n6 c6]) wx) ∧ Hid (NdV wx (ndV nd.leaf (.slice a5 n5 c5) (.slice a6 n6 c6)) nd))
      case first =>
        have HKD := Lib.hid HK9.out.drew
        have HKA : Hid (Kp w.heap.size w (L ++ row1 g #[.string ⟨#[]⟩, .string ⟨#[]⟩, .int .u32 0, .int .u32 0] ++ row1 wc.heap.size #[.bool false, .slice none 0 0, .slice none 0 0]) (wc.drew.alloc (.cells #[.bool false, .slice none 0 0, .slice none 0 0] 71))) := HKD.out.more (Nat.le_refl _) #[.bool false, .slice none 0 0, .slice none 0 0] 71
        obtain ⟨l0, l1, l2, l3⟩ := HX4.out _ HKD.out.left
        have la : ∀ o, (wc.alloc o).cell? ⟨w.heap.size, 0, none⟩ = some (.string (str x.key)) ∧ (wc.alloc o).cell? ⟨w.heap.size, 1, none⟩ = some (.string (str x.val)) ∧ (wc.alloc o).cell? ⟨w.heap.size, 2, none⟩ = some (.int .u32 x.chain) ∧ (wc.alloc o).cell? ⟨w.heap.size, 3, none⟩ = some (.int .u32 x.long) := fun o => HX4.out _ (HK9.out.left.step (Nat.le_refl _) ((Below.refl _ _).alloc (Nat.le_refl _) o))
        have la0 := fun o => (la o).1
        have la1 := fun o => (la o).2.1
        have la2 := fun o => (la o).2.2.1
        have la3 := fun o => (la o).2.2.2
        clear la
        go_region_with (first
          | (go_at_call 47; (with_reducible refine (HBN.out _).mono ?_); rintro e w1 ⟨rfl, hb1⟩; first
              | (have HK1 := Lib.hid (HKA.out.step (Nat.le_refl _) hb1); obtain ⟨m0, m1, m2, m3⟩ := HX4.out _ HK1.out.left.left; clear hb1)
              | (have HK1 := Lib.hid (HKD.out.step (Nat.le_refl _) hb1); obtain ⟨m0, m1, m2, m3⟩ := HX4.out _ HK1.out.left; have HK1A := Lib.hid (HK1.out.more (Nat.le_refl _) #[.bool false, .slice none 0 0, .slice none 0 0] 71); have ma := fun o => HX4.out _ (HK1.out.left.step (Nat.le_refl _) ((Below.refl _ _).alloc (Nat.le_refl _) o)); have ma0 := fun o => (ma o).1; have ma1 := fun o => (ma o).2.1; have ma2 := fun o => (ma o).2.2.1; have ma3 := fun o => (ma o).2.2.2; clear hb1 ma))
          | (go_at_call 57; (with_reducible refine (HPT.out _).mono ?_); rintro e w2 ⟨v2, rfl, hv2, hb2⟩; have HN2 := Lib.hid hv2; obtain ⟨vc, vk, rfl, hc, hcc, hk, hkk⟩ := hv2; obtain ⟨a5, n5, c5, _, _, _⟩ := hcc; obtain ⟨a6, n6, c6, _, _, _⟩ := hkk; unfold ndV; first
              | (have HK2 := Lib.hid (HK1A.out.step (Nat.le_refl _) hb2); obtain ⟨⟨r0, r1, r2⟩, r3, r4, r5⟩ := HK2.out.right.three; clear hb2)
              | (have HK2 := Lib.hid (HK1.out.step (Nat.le_refl _) hb2); obtain ⟨⟨r0, r1, r2⟩, r3, r4, r5⟩ := HK2.out.right.three; clear hb2)
              | (have HK2 := Lib.hid (HK1.out.step (Nat.le_refl _) hb2); have HK2A := Lib.hid hb2; clear hb2)))
        all_goals
          go_wp2_with fail
          go_meet
          first
            | exact ⟨_, a5, n5, c5, a6, n6, c6, rfl, Lib.hid HK2.out.below.size, Lib.hid (HK2.out.more (Nat.le_refl _) _ _), Lib.hid (HN2.out.below ((Below.refl _ _).alloc (Nat.le_refl _) _))⟩
            | exact ⟨_, a5, n5, c5, a6, n6, c6, rfl, Lib.hid HK1.out.below.size, Lib.hid (HK2.out.put3 HK1.out.below.size HK1.out.lt _ _ _), Lib.hid (HN2.out.put3 r0 r1 r2 rfl rfl rfl _ _ _)⟩
            | exact ⟨_, a5, n5, c5, a6, n6, c6, rfl, Lib.hid HKD.out.below.size, Lib.hid (HK2.out.put3 HKD.out.below.size HKD.out.lt _ _ _), Lib.hid (HN2.out.put3 r0 r1 r2 rfl rfl rfl _ _ _)⟩
      case rest =>
        obtain ⟨g2, a5, n5, c5, a6, n6, c6, rfl, HG2, HK10, HN10⟩ := hcut
        obtain ⟨⟨t0, t1, t2⟩, _⟩ := HK10.out.right.three
        have HSE := Lib.hid (settle_empty (HT.out _ HK10.out.below) (Nat.le_trans hB HK10.out.below.size) _ nd HN10.out HNL.out.1 HNL.out.2 hm hn)
        have hgp : p < w.heap.size := HPQ.out.1
        have hgb : b < w.heap.size := HPQ.out.2.1
        have hgq : q < w.heap.size := HPQ.out.2.2
        have HGG := HG.out
        unfold ndV at HSE
        obtain ⟨⟨n0, n1, n2, n3⟩, _⟩ := HK10.out.left.right.four
        have hkl := HK10.out.left.left
        rw [← HLL.out] at hkl
        obtain ⟨⟨y0, y1, y2, y3⟩, y4, y5, y6, y7⟩ := hkl.right.four
        have hns : ¬ (g = p ∨ g = b ∨ g = q) := by omega
        have hns1 : ¬ (w.heap.size + 1 = p ∨ w.heap.size + 1 = b ∨ w.heap.size + 1 = q) := by omega
        have hlt1 := World.block_lt_of_cell? _ _ y0
        have HALL : Hid (∀ w7, Off (fun k => k = p ∨ k = b ∨ k = q) wc w7 → (w7.cell? ⟨g, 0, none⟩ = some (.string ⟨#[]⟩) ∧ w7.cell? ⟨g, 1, none⟩ = some (.string ⟨#[]⟩) ∧ w7.cell? ⟨g, 2, none⟩ = some (.int .u32 0) ∧ w7.cell? ⟨g, 3, none⟩ = some (.int .u32 0)) ∧ (w7.cell? ⟨w.heap.size + 1, 0, none⟩ = some (.string ⟨#[]⟩) ∧ w7.cell? ⟨w.heap.size + 1, 1, none⟩ = some (.string ⟨#[]⟩) ∧ w7.cell? ⟨w.heap.size + 1, 2, none⟩ = some (.int .u32 0) ∧ w7.cell? ⟨w.heap.size + 1, 3, none⟩ = some (.int .u32 0)) ∧ (w7.frozen? ⟨w.heap.size + 1, 0, none⟩ = false ∧ w7.frozen? ⟨w.heap.size + 1, 1, none⟩ = false ∧ w7.frozen? ⟨w.heap.size + 1, 2, none⟩ = false ∧ w7.frozen? ⟨w.heap.size + 1, 3, none⟩ = false)) := fun w7 ho => ⟨⟨ho.cell hns n0, ho.cell hns n1, ho.cell hns n2, ho.cell hns n3⟩, ⟨ho.cell hns1 y0, ho.cell hns1 y1, ho.cell hns1 y2, ho.cell hns1 y3⟩, (ho.froz hns1 hlt1).trans y4, (ho.froz hns1 hlt1).trans y5, (ho.froz hns1 hlt1).trans y6, (ho.froz hns1 hlt1).trans y7⟩
        clear n0 n1 n2 n3 y0 y1 y2 y3 y4 y5 y6 y7 hkl hns hns1 hlt1
        go_wp2_with (go_at_call 49; refine HSE.out.mono ?_; rintro e w7 ⟨rfl, hts, hoff⟩; have HTS := Lib.hid hts; have HOFF := Lib.hid hoff; obtain ⟨⟨n0, n1, n2, n3⟩, ⟨e0, e1, e2, e3⟩, f0, f1, f2, f3⟩ := HALL.out _ hoff; clear hts hoff)
        rw [setCell_self e0, setCell_self e1, setCell_self e2, setCell_self e3]
        refine bodyPost_ret_by (v := .tuple #[.agg #[.string ⟨#[]⟩, .string ⟨#[]⟩, .int .u32 0, .int .u32 0], .bool false, .int .i64 0]) ?_ rfl ⟨rfl, by rw [HND.out]; exact HTS.out, (Off.of HK10.out.below).trans HOFF.out⟩
        simp [results, Tryz.results18, go_sem, e0, e1, e2, e3]
end Go.Proofs.YtdgcdekgleegbaaGreat
/- Get and Depth of a tree whose root is a leaf. -/
namespace Go.Proofs.YtdgcdekgleegbaaGreat
open Go.RowKit Go.Maps
open Sl (Cl Kd Nd Rn)
theorem bottom_one {w : World} {B : Nat} {v : Value} {a5 a6 : Option Addr} {n5 c5 n6 c6 : Nat} (h : w.ownsRow B 141 4 v 1 [.bool true, .slice a5 n5 c5, .slice a6 n6 c6, .int .i64 0]) :
    Calls Tryz.prog 47 #[v] w fun e w' => e = .returned (ndV true (.slice a5 n5 c5) (.slice a6 n6 c6)) ∧ Below w.heap.size w w' := by
  have h0 := h
  obtain ⟨_, h1⟩ := h
  rcases h1 with ⟨_, h1⟩ | ⟨g, cap, cur, rfl, _, _, hle, hmx, _⟩
  · cases h1
  have hlt := h0.lt g rfl
  have c0 := h0.cellAt 0 (by simp)
  have c1 := h0.cellAt 1 (by simp)
  have c2 := h0.cellAt 2 (by simp)
  simp at c0 c1 c2
  have hgl := hlt.2
  have HB0 : Hid (∀ o, Below w.heap.size w (w.alloc o)) := fun o => (Below.refl _ _).alloc (Nat.le_refl _) o
  have d0 := fun o => (HB0.out o).cell (p := ⟨g, 0, none⟩) hgl |>.trans c0
  have d1 := fun o => (HB0.out o).cell (p := ⟨g, 1, none⟩) hgl |>.trans c1
  have d2 := fun o => (HB0.out o).cell (p := ⟨g, 2, none⟩) hgl |>.trans c2
  clear h0 hlt c0 c1 c2
  go_enter Tryz.func47, Tryz.ntmps47
  go_wp2
  refine bodyPost_ret_by (v := ndV true (.slice a5 n5 c5) (.slice a6 n6 c6)) ?_ rfl ⟨rfl, HB0.out _⟩
  simp [ndV, results, Tryz.results47, go_sem]
theorem get_leaf {w : World} {q p b B n made frozen k : Nat} {F : Nat → Option Nd} (h : TS w q p b B n made frozen k F) (hk : k < 4294967296) (hk0 : 0 < k) {nd : Nd} (hF : F k = some nd) (hlf : nd.leaf = true) (h1 : nd.cs.length ≤ 100000) (h2 : nd.ks.length ≤ 100000) (hr : Sl.rises Sl.shC nd.cs = true) (key : List UInt8) (th : Bool) (ht : Sl.there Sl.shC nd.cs key = th) (x : Cl) (hx : if th then nd.cs[Sl.place Sl.shC nd.cs key]? = some x else x = ⟨[], [], 0, 0⟩) :
    Calls Tryz.prog 15 #[.pointer (some ⟨q, 0, none⟩), .string (str key)] w fun e w' => e = .returned (.tuple #[.agg #[.string (str x.key), .string (str x.val), .int .u32 x.chain, .int .u32 x.long], .bool th, .int .i64 0]) ∧ Below w.heap.size w w' := by
  have HW := Lib.hid (fun W (hW : Below w.heap.size w W) => way_leaf (h.below hW) hk hk0 hF hlf h1 h2 key)
  have HF := Lib.hid (fun W v (hv : NdV W v nd) => find_both v nd key W hv h1 hr th ht x hx)
  have HK := Lib.hid (Kp.laid (Below.refl _ w) (Nat.le_refl _) #[.string ⟨#[]⟩, .string ⟨#[]⟩, .int .u32 0, .int .u32 0] 32)
  clear h hr ht hx
  go_enter Tryz.func15, Tryz.ntmps15
  go_wp2_with (first
    | (go_at_call 46; refine (HW.out _ HK.out.below).mono ?_; rintro e w1 ⟨v, a5, n5, c5, a6, n6, c6, rfl, ho, hn, hb1⟩; have HN := Lib.hid hn; have HO := Lib.hid (fun W (hW : Below w1.heap.size w1 W) => bottom_one (ownsRow_below ho hW)); have HK1 := Lib.hid (HK.out.step (Nat.le_refl _) hb1); obtain ⟨a7, n7, c7, rfl⟩ : ∃ a n c, v = .slice a n c := (by rcases ho.2 with ⟨rfl, _⟩ | ⟨g, cap, cur, rfl, _⟩; exact ⟨_, _, _, rfl⟩; exact ⟨_, _, _, rfl⟩); clear ho hb1)
    | (go_at_call 47; refine (HO.out _ (Below.refl _ _)).mono ?_; rintro e w2 ⟨rfl, hb2⟩; unfold ndV; have HN2 := Lib.hid (HN.out.below hb2); have HK2 := Lib.hid (HK1.out.step (Nat.le_refl _) hb2); clear hb2)
    | (go_at_call 50; refine (HF.out _ _ HN2.out).mono ?_; rintro e w3 ⟨rfl, hb3⟩; have HK3 := Lib.hid (HK2.out.step (Nat.le_refl _) hb3); have zz := fun o => (HK3.out.step (Nat.le_refl _) ((Below.refl _ _).alloc (Nat.le_refl _) o)).four; have z0 := fun o => (zz o).1.1; have z1 := fun o => (zz o).1.2.1; have z2 := fun o => (zz o).1.2.2.1; have z3 := fun o => (zz o).1.2.2.2; have z4 := fun o => (zz o).2.1; have z5 := fun o => (zz o).2.2.1; have z6 := fun o => (zz o).2.2.2.1; have z7 := fun o => (zz o).2.2.2.2; clear hb3 zz))
  refine bodyPost_ret_by (v := .tuple #[.agg #[.string (str x.key), .string (str x.val), .int .u32 x.chain, .int .u32 x.long], .bool th, .int .i64 0]) ?_ rfl ⟨rfl, ?_⟩
  · simp [results, Tryz.results15, go_sem, z0, z1, z2, z3]
  · exact below_set4 (HK3.out.below.alloc HK3.out.below.size _) (Nat.le_refl _)
theorem depth_leaf {w : World} {q p b B n made frozen k : Nat} {F : Nat → Option Nd} (h : TS w q p b B n made frozen k F) (hk : k < 4294967296) (hk0 : 0 < k) {nd : Nd} (hF : F k = some nd) (hlf : nd.leaf = true) (h1 : nd.cs.length ≤ 100000) (h2 : nd.ks.length ≤ 100000) :
    Calls Tryz.prog 22 #[.pointer (some ⟨q, 0, none⟩)] w fun e w' => e = .returned (.tuple #[.int .i64 1, .int .i64 0]) ∧ Below w.heap.size w w' := by
  have HW : Hid (Calls Tryz.prog 46 #[.pointer (some ⟨q, 0, none⟩), .string ⟨#[]⟩] w fun e w' => ∃ v a5 n5 c5 a6 n6 c6, e = .returned (.tuple #[v, .int .i64 0]) ∧ w'.ownsRow w.heap.size 141 4 v 1 [.bool true, .slice a5 n5 c5, .slice a6 n6 c6, .int .i64 0] ∧ NdV w' (ndV true (.slice a5 n5 c5) (.slice a6 n6 c6)) nd ∧ Below w.heap.size w w') := way_leaf h hk hk0 hF hlf h1 h2 []
  clear h
  go_enter Tryz.func22, Tryz.ntmps22
  go_wp2_with (go_at_call 46; refine HW.out.mono ?_; rintro e w1 ⟨v, a5, n5, c5, a6, n6, c6, rfl, ho, _, hb1⟩; have HB := Lib.hid hb1; obtain ⟨a7, c7, rfl⟩ : ∃ a c, v = .slice a 1 c := (by rcases ho.2 with ⟨_, h0⟩ | ⟨g, cap, cur, rfl, _⟩; cases h0; exact ⟨_, _, rfl⟩); clear ho hb1)
  go_ret2
  exact ⟨rfl, HB.out⟩
end Go.Proofs.YtdgcdekgleegbaaGreat
/- The contract of the document's own right. -/
namespace Go.Proofs.YtdgcdekgleegbaaGreat
open Go.RowKit
open Sl (Cl Kd)
theorem long_bad (leaf : Bool) (x : Cl) (h : 255 < x.key.length) : Sl.long (Sl.shR leaf) x = true := by
  unfold Sl.long; rw [decide_eq_true (show 255 < ((Sl.shR leaf).key x).length from h)]; rfl
theorem long_kid (x : Cl) (h : ¬ 255 < x.key.length) : Sl.long (Sl.shR false) x = false := by
  unfold Sl.long; rw [decide_eq_false (show ¬ 255 < ((Sl.shR false).key x).length from h)]; rfl
theorem long_leaf (x : Cl) (h : ¬ 255 < x.key.length) : Sl.long (Sl.shR true) x = !(Sl.fitsC x) := by
  unfold Sl.long; rw [decide_eq_false (show ¬ 255 < ((Sl.shR true).key x).length from h)]; rfl
theorem str_beq {a b : List UInt8} (h : a = b) : ((str a).toList == (str b).toList) = true := by rw [h]; exact beq_self_eq_true _
theorem str_bne {a b : List UInt8} (h : a ≠ b) : ((str a).toList == (str b).toList) = false := by
  rw [Lib.toList_data, Lib.toList_data, beq_eq_false_iff_ne]; exact h
set_option maxHeartbeats 4000000 in
set_option maxRecDepth 100000 in
theorem refRight_any (leaf : Bool) (v : Value) (l : List Cl) (hll : l.length ≤ 100000) (w : World) (hv : SlC w v l) :
    Calls Tryz.prog 51 #[v, .bool leaf] w fun e w' => e = .returned (.int .i64 (Sl.right (Sl.shR leaf) l)) ∧ Below w.heap.size w w' := by
  obtain ⟨a, b, o, c, rfl, ha, hx⟩ := hv
  have HX := Lib.hid hx
  have HA := Lib.hid ha
  clear ha hx
  go_enter Tryz.func51, Tryz.ntmps51
  go_wp2
  go_loopg [10] l.length (fun n i wr => ∃ k : Nat, k ≤ l.length ∧ n = l.length - k ∧ i = .int .i64 k ∧ Hid ((l.take k).any (Sl.long (Sl.shR leaf)) = false) ∧ Hid (Below w.heap.size w wr))
  case atStart => exact ⟨0, Nat.zero_le _, rfl, rfl, rfl, Below.refl _ _⟩
  case round =>
    obtain ⟨k, hk, rfl, rfl, HM, HB⟩ := hrel
    by_cases hlt : k < l.length
    · obtain ⟨x, hx⟩ := take_some l k hlt
      have HXK := Lib.hid hx
      obtain ⟨e0, e1, e2, e3⟩ := HX.out k x hx
      have hblt : b < w.heap.size := World.block_lt_of_cell? _ _ e0
      have d0 := (HB.out.cell (p := ⟨b, o + k * 4, none⟩) hblt).trans e0
      have d1 := (HB.out.cell (p := ⟨b, o + k * 4 + 1, none⟩) hblt).trans e1
      have d2 := (HB.out.cell (p := ⟨b, o + k * 4 + 2, none⟩) hblt).trans e2
      have d3 := (HB.out.cell (p := ⟨b, o + k * 4 + 3, none⟩) hblt).trans e3
      obtain rfl : a = some ⟨b, o, none⟩ := by
        rcases HA.out with h | h
        · rw [h] at hlt; cases hlt
        · exact h
      have hs := str_size x.key
      have hs2 := str_size x.val
      have HBa : Hid (Below w.heap.size w (wr.alloc (.cells #[.string (str x.key), .string (str x.val), .int .u32 x.chain, .int .u32 x.long] 32))) := HB.out.alloc HB.out.size _
      clear e0 e1 e2 e3 hx
      by_cases hA : 255 < x.key.length
      · have HL : Hid (Sl.right (Sl.shR leaf) l = 5) := Sl.right_long (Sl.shR leaf) l k x HXK.out (long_bad leaf x hA)
        have hA' : (255 : Int) < x.key.length := by omega
        go_wp2
        go_ret
        exact ⟨ret_int HL.out.symm, HBa.out⟩
      · have hA' : ¬ (255 : Int) < x.key.length := by omega
        cases leaf
        · have HN := Lib.hid (Sl.any_snoc (Sl.shR false) l k x HXK.out HM.out (long_kid x hA))
          go_wp2
          go_roundg (l.length - (k + 1))
          case measure => omega
          case rel => exact ⟨k + 1, by omega, rfl, by go_num, HN, HBa⟩
        · by_cases h0 : x.chain = 0
          · have hf : Sl.fitsC x = decide (x.val.length ≤ 400) := by unfold Sl.fitsC; rw [if_neg (by omega)]
            rw [h0] at d2 HBa
            have hz : ((0 : Nat) : Int) = 0 := rfl
            by_cases h4 : x.val.length ≤ 400
            · have h4' : ¬ (400 : Int) < x.val.length := by omega
              have HN := Lib.hid (Sl.any_snoc (Sl.shR true) l k x HXK.out HM.out (by rw [long_leaf x hA, hf, decide_eq_true h4]; rfl))
              clear hf
              go_wp2
              go_roundg (l.length - (k + 1))
              case measure => omega
              case rel => exact ⟨k + 1, by omega, rfl, by go_num, HN, HBa⟩
            · have h4' : (400 : Int) < x.val.length := by omega
              have HL : Hid (Sl.right (Sl.shR true) l = 5) := Sl.right_long (Sl.shR true) l k x HXK.out (by rw [long_leaf x hA, hf, decide_eq_false h4]; rfl)
              clear hf
              go_wp2
              go_ret
              exact ⟨ret_int HL.out.symm, HBa.out⟩
          · have hf : Sl.fitsC x = decide (x.val.length ≤ 0) := by unfold Sl.fitsC; rw [if_pos h0]
            have hd : ((x.chain : Int) == 0) = false := by rw [beq_eq_false_iff_ne]; omega
            have hd' : ((x.chain : Int) != 0) = true := by rw [bne_iff_ne]; omega
            by_cases h4 : x.val.length ≤ 0
            · have h4' : ¬ (0 : Int) < x.val.length := by omega
              have HN := Lib.hid (Sl.any_snoc (Sl.shR true) l k x HXK.out HM.out (by rw [long_leaf x hA, hf, decide_eq_true h4]; rfl))
              clear hf
              go_wp2
              go_roundg (l.length - (k + 1))
              case measure => omega
              case rel => exact ⟨k + 1, by omega, rfl, by go_num, HN, HBa⟩
            · have h4' : (0 : Int) < x.val.length := by omega
              have h4n : 0 < x.val.length := by omega
              have HL : Hid (Sl.right (Sl.shR true) l = 5) := Sl.right_long (Sl.shR true) l k x HXK.out (by rw [long_leaf x hA, hf, decide_eq_false h4]; rfl)
              clear hf
              go_wp2
              go_ret
              exact ⟨ret_int HL.out.symm, HBa.out⟩
    · obtain rfl : k = l.length := by omega
      rw [List.take_length] at HM
      obtain ⟨wo, rfl⟩ : ∃ wo : World, wo = wr := ⟨_, rfl⟩
      have HBO := Lib.hid HB.out
      clear HB
      go_wp2
      go_loopg [7] (l.length + 1) (fun n i wr => ∃ k : Nat, k ≤ l.length ∧ n = l.length + 1 - k ∧ i = .int .i64 ((k + 1 : Nat) : Int) ∧ Hid (∀ j a b, j < k → l[j]? = some a → l[j + 1]? = some b → Sl.less a.key b.key = true) ∧ Hid (Below w.heap.size w wr))
      case atStart => exact ⟨0, Nat.zero_le _, rfl, rfl, fun j a b hj => absurd hj (Nat.not_lt_zero j), HBO.out⟩
      case round =>
        obtain ⟨k, hk', rfl, rfl, HN, HB⟩ := hrel
        by_cases hlt1 : k + 1 < l.length
        · obtain ⟨x, hx⟩ := take_some l k (by omega)
          obtain ⟨y, hy⟩ := take_some l (k + 1) hlt1
          have HXK := Lib.hid hx
          have HYK := Lib.hid hy
          obtain ⟨e0, e1, e2, e3⟩ := HX.out k x hx
          obtain ⟨f0, f1, f2, f3⟩ := HX.out (k + 1) y hy
          have hblt : b < w.heap.size := World.block_lt_of_cell? _ _ e0
          have d0 := (HB.out.cell (p := ⟨b, o + k * 4, none⟩) hblt).trans e0
          have g0 := (HB.out.cell (p := ⟨b, o + (k + 1) * 4, none⟩) hblt).trans f0
          obtain rfl : a = some ⟨b, o, none⟩ := by
            rcases HA.out with h | h
            · rw [h] at hlt1; cases hlt1
            · exact h
          clear e0 e1 e2 e3 f0 f1 f2 f3 hx hy
          have hlt' : (k : Int) + 1 < l.length := by omega
          have hk0 : (0 : Int) ≤ (k : Int) := by omega
          have hk1 : (k : Int) < l.length := by omega
          have hk2 : (0 : Int) ≤ (k : Int) + 1 := by omega
          have hk4 : ((k : Int) + 1).toNat = k + 1 := by omega
          cases hle : Sl.less x.key y.key
          · have HR30 : Hid (Sl.right (Sl.shR leaf) l = 30) := Sl.right_drop (Sl.shR leaf) l HM.out (Sl.rises_false (Sl.shR leaf) l k x y HXK.out HYK.out hle)
            cases hge : Sl.less y.key x.key
            · have hb2 := str_beq (Sl.less_tri y.key x.key hge hle)
              have hb1 : Op.bytesLess (str y.key).toList (str x.key).toList = false := (bl _ _).trans hge
              clear hle hge
              go_wp2_with fail
              go_quiet (fail)
              go_wp2
              go_ret
              exact ⟨ret_int HR30.out.symm, below_drewN HB.out _⟩
            · have hb1 : Op.bytesLess (str y.key).toList (str x.key).toList = true := (bl _ _).trans hge
              clear hle hge
              go_wp2_with fail
              go_quiet (fail)
              go_wp2
              go_ret
              exact ⟨ret_int HR30.out.symm, below_drewN HB.out _⟩
          · have hb1 : Op.bytesLess (str y.key).toList (str x.key).toList = false := (bl _ _).trans (Sl.less_asym _ _ hle)
            have hb2 := str_bne (a := y.key) (b := x.key) (fun e => by rw [e, Sl.less_self] at hle; cases hle)
            have HNN := Lib.hid (Sl.rises_upto (Sl.shR leaf) l k x y HXK.out HYK.out hle HN.out)
            clear hle
            go_wp2_with fail
            go_quiet (fail)
            clear hk4
            go_wp2
            go_roundg (l.length + 1 - (k + 1))
            case measure => omega
            case rel => exact ⟨k + 1, by omega, rfl, by go_num, HNN, below_drewN HB.out _⟩
        · have hlen : ¬ (k : Int) + 1 < l.length := by omega
          have HR0 : Hid (Sl.right (Sl.shR leaf) l = 0) := Sl.right_ok (Sl.shR leaf) l HM.out (Sl.rises_all (Sl.shR leaf) l fun j a b hj => HN.out j a b (by omega))
          go_wp2
          go_ret
          exact ⟨ret_int HR0.out.symm, HB.out⟩
end Go.Proofs.YtdgcdekgleegbaaGreat
/- The contracts of the document's own Same (of a row with itself) and Find. -/
namespace Go.Proofs.YtdgcdekgleegbaaGreat
open Go.RowKit
open Sl (Cl Kd)
set_option maxHeartbeats 4000000 in
set_option maxRecDepth 100000 in
theorem same_any (v u : Value) (l : List Cl) (hll : l.length ≤ 100000) (w : World) (hv : SlC w v l) (hu : SlC w u l) :
    Calls Tryz.prog 23 #[v, u] w fun e w' => e = .returned (.bool true) ∧ Below w.heap.size w w' := by
  obtain ⟨a, b, o, c, rfl, ha, hx⟩ := hv
  obtain ⟨a', b', o', c', rfl, ha', hx'⟩ := hu
  have HX := Lib.hid hx
  have HA := Lib.hid ha
  have HX' := Lib.hid hx'
  have HA' := Lib.hid ha'
  clear ha hx ha' hx'
  have hlen : (l.length : Int) ≤ 100000 := by omega
  go_enter Tryz.func23, Tryz.ntmps23
  go_wp2
  go_loopg [13] l.length (fun n i wr => ∃ k : Nat, k ≤ l.length ∧ n = l.length - k ∧ i = .int .i64 k ∧ Hid (Below w.heap.size w wr))
  case atStart => exact ⟨0, Nat.zero_le _, rfl, rfl, Below.refl _ _⟩
  case round =>
    obtain ⟨k, hk, rfl, rfl, HB⟩ := hrel
    by_cases hlt : k < l.length
    · obtain ⟨x, hx⟩ := take_some l k hlt
      obtain ⟨e0, e1, e2, e3⟩ := HX.out k x hx
      obtain ⟨y0, y1, y2, y3⟩ := HX'.out k x hx
      have hblt : b < w.heap.size := World.block_lt_of_cell? _ _ e0
      have d0 := (HB.out.cell (p := ⟨b, o + k * 4, none⟩) hblt).trans e0
      have d1 := (HB.out.cell (p := ⟨b, o + k * 4 + 1, none⟩) hblt).trans e1
      have d2 := (HB.out.cell (p := ⟨b, o + k * 4 + 2, none⟩) hblt).trans e2
      have d3 := (HB.out.cell (p := ⟨b, o + k * 4 + 3, none⟩) hblt).trans e3
      have hblt' : b' < w.heap.size := World.block_lt_of_cell? _ _ y0
      have g0 := (HB.out.cell (p := ⟨b', o' + k * 4, none⟩) hblt').trans y0
      have g1 := (HB.out.cell (p := ⟨b', o' + k * 4 + 1, none⟩) hblt').trans y1
      have g2 := (HB.out.cell (p := ⟨b', o' + k * 4 + 2, none⟩) hblt').trans y2
      have g3 := (HB.out.cell (p := ⟨b', o' + k * 4 + 3, none⟩) hblt').trans y3
      obtain rfl : a = some ⟨b, o, none⟩ := by
        rcases HA.out with h | h
        · rw [h] at hlt; cases hlt
        · exact h
      obtain rfl : a' = some ⟨b', o', none⟩ := by
        rcases HA'.out with h | h
        · rw [h] at hlt; cases hlt
        · exact h
      have hki : (k : Int) < l.length := by omega
      have hk0 : (0 : Int) ≤ (k : Int) := by omega
      clear e0 e1 e2 e3 y0 y1 y2 y3 hx hblt hblt'
      go_wp2
      go_quiet (fail)
      go_wp2
      go_roundg (l.length - (k + 1))
      case measure => omega
      case rel => exact ⟨k + 1, by omega, rfl, by go_num, below_drewN HB.out _⟩
    · obtain rfl : k = l.length := by omega
      go_wp2
      go_ret
      exact ⟨rfl, HB.out⟩
set_option maxHeartbeats 4000000 in
set_option maxRecDepth 100000 in
theorem refFind_any (v : Value) (l : List Cl) (hll : l.length ≤ 100000) (key : List UInt8) (w : World) (hv : SlC w v l) :
    Calls Tryz.prog 14 #[v, .string (str key)] w fun e w' => e = .returned (.tuple #[.int .i64 (Sl.place Sl.shC l key : Nat), .bool (Sl.there Sl.shC l key)]) ∧ Below w.heap.size w w' := by
  obtain ⟨a, b, o, c, rfl, ha, hx⟩ := hv
  have HX := Lib.hid hx
  have HA := Lib.hid ha
  clear ha hx
  have hlen : (l.length : Int) ≤ 100000 := by omega
  go_enter Tryz.func14, Tryz.ntmps14
  go_wp2
  go_loopg [10] l.length (fun n i wr => ∃ k : Nat, k ≤ l.length ∧ n = l.length - k ∧ i = .int .i64 k ∧ Hid (∀ m x, m < k → l[m]? = some x → Sl.less (Sl.shC.key x) key = true) ∧ Hid (Below w.heap.size w wr))
  case atStart => exact ⟨0, Nat.zero_le _, rfl, rfl, fun m x h => absurd h (Nat.not_lt_zero m), Below.refl _ _⟩
  case round =>
    obtain ⟨k, hk, rfl, rfl, HLO, HB⟩ := hrel
    by_cases hlt : k < l.length
    · obtain ⟨x, hx⟩ := take_some l k hlt
      have HXK := Lib.hid hx
      obtain ⟨e0, e1, e2, e3⟩ := HX.out k x hx
      have hblt : b < w.heap.size := World.block_lt_of_cell? _ _ e0
      have d0 := (HB.out.cell (p := ⟨b, o + k * 4, none⟩) hblt).trans e0
      have d1 := (HB.out.cell (p := ⟨b, o + k * 4 + 1, none⟩) hblt).trans e1
      have d2 := (HB.out.cell (p := ⟨b, o + k * 4 + 2, none⟩) hblt).trans e2
      have d3 := (HB.out.cell (p := ⟨b, o + k * 4 + 3, none⟩) hblt).trans e3
      obtain rfl : a = some ⟨b, o, none⟩ := by
        rcases HA.out with h | h
        · rw [h] at hlt; cases hlt
        · exact h
      have HBa : Hid (Below w.heap.size w (wr.alloc (.cells #[.string (str x.key), .string (str x.val), .int .u32 x.chain, .int .u32 x.long] 32))) := HB.out.alloc HB.out.size _
      clear e0 e1 e2 e3 hx hblt
      cases hle : Sl.less x.key key
      · have hb1 : Op.bytesLess (str x.key).toList (str key).toList = false := (bl _ _).trans hle
        have HPL : Hid (Sl.place Sl.shC l key = k) := Sl.place_eq Sl.shC key l k hk HLO.out (fun y hy => by rw [HXK.out] at hy; injection hy with hy; rw [← hy]; exact hle)
        have HTH : Hid (Sl.there Sl.shC l key = decide (x.key = key)) := Sl.there_some Sl.shC l key x (by rw [HPL.out]; exact HXK.out)
        clear hle
        by_cases hkk : x.key = key
        · have hb2 := str_beq hkk
          have HKK := Lib.hid hkk
          clear hkk
          go_wp2
          go_quiet (fail)
          go_wp2
          go_ret2
          exact ⟨by rw [HPL.out, HTH.out, decide_eq_true HKK.out]; rfl, below_drewN HBa.out _⟩
        · have hb2 := str_bne hkk
          have HKK := Lib.hid hkk
          clear hkk
          go_wp2
          go_quiet (fail)
          go_wp2
          go_ret2
          exact ⟨by rw [HPL.out, HTH.out, decide_eq_false HKK.out]; rfl, below_drewN HBa.out _⟩
      · have hb1 : Op.bytesLess (str x.key).toList (str key).toList = true := (bl _ _).trans hle
        have HLN : Hid (∀ m y, m < k + 1 → l[m]? = some y → Sl.less (Sl.shC.key y) key = true) := fun m y hm hy => by
          rcases Nat.lt_or_ge m k with h | h
          · exact HLO.out m y h hy
          · obtain rfl : m = k := by omega
            rw [HXK.out] at hy; injection hy with hy; rw [← hy]; exact hle
        clear hle
        go_wp2
        go_roundg (l.length - (k + 1))
        case measure => omega
        case rel => exact ⟨k + 1, by omega, rfl, by go_num, HLN, HBa⟩
    · obtain rfl : k = l.length := by omega
      have HPL : Hid (Sl.place Sl.shC l key = l.length) := Sl.place_eq Sl.shC key l l.length (Nat.le_refl _) HLO.out (fun y hy => by rw [List.getElem?_eq_none (Nat.le_refl _)] at hy; cases hy)
      have HTH : Hid (Sl.there Sl.shC l key = false) := Sl.there_none Sl.shC l key (Nat.le_of_eq HPL.out.symm)
      go_wp2
      go_ret2
      exact ⟨by rw [HPL.out, HTH.out]; rfl, HB.out⟩
end Go.Proofs.YtdgcdekgleegbaaGreat
/- The document's own node: what it is of the program's; whether two are the same. -/
namespace Go.Proofs.YtdgcdekgleegbaaGreat.Sl
def toR (n : Nd) : Rn := ⟨n.leaf, if n.leaf then n.cs else n.ks.map toC⟩
def fromN (leaf : Bool) (l : List Cl) : Nd := if leaf then ⟨true, l, []⟩ else ⟨false, [], l.map toK⟩
end Go.Proofs.YtdgcdekgleegbaaGreat.Sl
namespace Go.Proofs.YtdgcdekgleegbaaGreat
open Go.RowKit
open Sl (Cl Kd Nd Rn)
inductive RetR (n : Rn) (w : World) (e : Ending) (w' : World) : Prop
  | mk (v : Value) (he : e = .returned v) (hv : RnV w' v n) (hb : Below w.heap.size w w')
end Go.Proofs.YtdgcdekgleegbaaGreat
