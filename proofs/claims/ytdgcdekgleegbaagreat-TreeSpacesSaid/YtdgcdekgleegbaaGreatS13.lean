/- Texts of one seat, merged. -/
import Derived.Test.YtdgcdekgleegbaaGreatS11
import Derived.Test.YtdgcdekgleegbaaGreatS12
import Derived.Defers
import Derived.Recover
import Derived.Deep.RegionWith
import Derived.OwnWalk
import Derived.Test.YtdgcdekgleegbaaGreatS04
import Derived.Test.YtdgcdekgleegbaaGreatS10
import Derived.Test.YtdgcdekgleegbaaGreatS01
import Derived.Lib.Builder
import Derived.Lib.AppendStr
set_option maxRecDepth 100000
set_option maxHeartbeats 4000000
set_option linter.unusedVariables false
/- The contract of a node's Put of a cell (Insert of a kid), at its own sort. -/
namespace Go.Proofs.YtdgcdekgleegbaaGreat
open Go.RowKit
open Sl (Cl Kd Nd Rn)
set_option maxHeartbeats 4000000 in
theorem putC_any (v : Value) (n : Nd) (x : Cl) (w : World) (hv : NdV w v n) (hlf : n.leaf = true) (hl : n.cs.length ≤ 90000) (hr : Sl.rises Sl.shC n.cs = true) :
    Calls Tryz.prog 57 #[v, aggC x] w (RetN ⟨true, Sl.putL Sl.shC n.cs x, []⟩ w) := by
  obtain ⟨vc, vk, rfl, hc, hcc, hk, hkk⟩ := hv
  have HWT := Lib.hid (fun W (hW : Below w.heap.size w W) => withC_any vc n.cs x hl hr W (hc.below hW))
  have HLV := Lib.hid (fun W => leaves_any W)
  rw [hlf]
  unfold ndV
  unfold shpC at HLV HWT
  obtain ⟨a, m, c, _, _, _⟩ := hcc
  obtain ⟨a', m', c', _, _, _⟩ := hkk
  clear hc hk hl hr
  generalize n.cs = l at *
  unfold aggC at *
  have hF : Hid (∀ x1 x2, (((w.alloc (.cells #[.bool true, x1, x2] 71)).alloc (.cells #[.string (str x.key), .string (str x.val), .int .u32 x.chain, .int .u32 x.long] 32)).alloc (.cells #[.bool false, .slice none 0 0, .slice none 0 0] 71)).drew.cell? ⟨w.heap.size, 1, none⟩ = some x1 ∧ (((w.alloc (.cells #[.bool true, x1, x2] 71)).alloc (.cells #[.string (str x.key), .string (str x.val), .int .u32 x.chain, .int .u32 x.long] 32)).alloc (.cells #[.bool false, .slice none 0 0, .slice none 0 0] 71)).drew.cell? ⟨w.heap.size + 1, 0, none⟩ = some (.string (str x.key)) ∧ (((w.alloc (.cells #[.bool true, x1, x2] 71)).alloc (.cells #[.string (str x.key), .string (str x.val), .int .u32 x.chain, .int .u32 x.long] 32)).alloc (.cells #[.bool false, .slice none 0 0, .slice none 0 0] 71)).drew.cell? ⟨w.heap.size + 1, 1, none⟩ = some (.string (str x.val)) ∧ (((w.alloc (.cells #[.bool true, x1, x2] 71)).alloc (.cells #[.string (str x.key), .string (str x.val), .int .u32 x.chain, .int .u32 x.long] 32)).alloc (.cells #[.bool false, .slice none 0 0, .slice none 0 0] 71)).drew.cell? ⟨w.heap.size + 1, 2, none⟩ = some (.int .u32 x.chain) ∧ (((w.alloc (.cells #[.bool true, x1, x2] 71)).alloc (.cells #[.string (str x.key), .string (str x.val), .int .u32 x.chain, .int .u32 x.long] 32)).alloc (.cells #[.bool false, .slice none 0 0, .slice none 0 0] 71)).drew.cell? ⟨w.heap.size + 1, 3, none⟩ = some (.int .u32 x.long) ∧ Kp w.heap.size w (row1 (w.heap.size + 1 + 1) zn) (((w.alloc (.cells #[.bool true, x1, x2] 71)).alloc (.cells #[.string (str x.key), .string (str x.val), .int .u32 x.chain, .int .u32 x.long] 32)).alloc (.cells #[.bool false, .slice none 0 0, .slice none 0 0] 71)).drew) := fun x1 x2 => by
    have hS : ((w.alloc (.cells #[.bool true, x1, x2] 71)).alloc (.cells #[.string (str x.key), .string (str x.val), .int .u32 x.chain, .int .u32 x.long] 32)).heap.size = w.heap.size + 1 + 1 := by simp
    have hb := alloc_below1 ((w.alloc (.cells #[.bool true, x1, x2] 71)).alloc (.cells #[.string (str x.key), .string (str x.val), .int .u32 x.chain, .int .u32 x.long] 32)) (.cells #[.bool false, .slice none 0 0, .slice none 0 0] 71)
    have hk := Kp.laid (boxB w (.cells #[.bool true, x1, x2] 71) (.cells #[.string (str x.key), .string (str x.val), .int .u32 x.chain, .int .u32 x.long] 32)) (by rw [hS]; omega) #[.bool false, .slice none 0 0, .slice none 0 0] 71
    rw [hS] at hb hk
    exact ⟨(hb.cell (p := ⟨w.heap.size, 1, none⟩) (show w.heap.size < w.heap.size + 1 + 1 by omega)).trans (box0 w _ _ _ _ 1), (hb.cell (p := ⟨w.heap.size + 1, 0, none⟩) (show w.heap.size + 1 < w.heap.size + 1 + 1 by omega)).trans (box1 w _ _ _ _ 0), (hb.cell (p := ⟨w.heap.size + 1, 1, none⟩) (show w.heap.size + 1 < w.heap.size + 1 + 1 by omega)).trans (box1 w _ _ _ _ 1), (hb.cell (p := ⟨w.heap.size + 1, 2, none⟩) (show w.heap.size + 1 < w.heap.size + 1 + 1 by omega)).trans (box1 w _ _ _ _ 2), (hb.cell (p := ⟨w.heap.size + 1, 3, none⟩) (show w.heap.size + 1 < w.heap.size + 1 + 1 by omega)).trans (box1 w _ _ _ _ 3), hk.drew⟩
  go_enter Tryz.func57, Tryz.ntmps57
  go_wp2_with fail
  go_region_held3 (fun w' => w'.cell? ⟨w.heap.size, 1, none⟩ = some (.slice a m c) ∧ w'.cell? ⟨w.heap.size + 1, 0, none⟩ = some (.string (str x.key)) ∧ w'.cell? ⟨w.heap.size + 1, 1, none⟩ = some (.string (str x.val)) ∧ w'.cell? ⟨w.heap.size + 1, 2, none⟩ = some (.int .u32 x.chain) ∧ w'.cell? ⟨w.heap.size + 1, 3, none⟩ = some (.int .u32 x.long) ∧ w'.cell? ⟨w.heap.size + 1 + 1, 0, none⟩ = some (cv w' (w.heap.size + 1 + 1) 0) ∧ w'.cell? ⟨w.heap.size + 1 + 1, 1, none⟩ = some (cv w' (w.heap.size + 1 + 1) 1) ∧ w'.cell? ⟨w.heap.size + 1 + 1, 2, none⟩ = some (cv w' (w.heap.size + 1 + 1) 2) ∧ w'.frozen? ⟨w.heap.size + 1 + 1, 0, none⟩ = false ∧ w'.frozen? ⟨w.heap.size + 1 + 1, 1, none⟩ = false ∧ w'.frozen? ⟨w.heap.size + 1 + 1, 2, none⟩ = false ∧ Below w.heap.size w w')
    ((first | assumption | exact startP5 (hF.out _ _) | exact stepP5 (Nat.le_refl _) ‹_› hb | exact stepP5s (stepP5s (stepP5s ‹_› (by omega) (by omega) (by omega) (by omega) (by omega) (by omega)) (by omega) (by omega) (by omega) (by omega) (by omega) (by omega)) (by omega) (by omega) (by omega) (by omega) (by omega) (by omega)))
    (first
    | (go_at_call 98; (with_reducible refine (HL5.out _).mono ?_); rintro e w6 ⟨rfl, hb⟩; have HZJ := Lib.hid (z3P5 (by assumption) hb); have HR6 := Lib.hid (HR5.out.below hb))
    | (go_at_call 99; (refine (HWT.out _ (lastP5 (by assumption))).mono ?_); rintro e w5 ⟨v5, rfl, hr5, hb⟩; obtain ⟨a5, n5, c5, ha5, hc5, hn5⟩ := hr5.cap; have HCP := Lib.hid (Cap.mk a5 n5 c5 ha5 hc5 hn5); have HQ : Hid (w.heap.size + 1 + 1 < _) := ltP5 (by assumption); have HR5 := Lib.hid (hr5.base (Nat.succ_le_of_lt HQ.out)); have HL5 := Lib.hid (fun W => leaf_any (.slice a5 n5 c5) HCP.out W); unfold ndV at HL5; clear hr5)
    | (go_at_call 55; (with_reducible refine (HLV.out _).mono ?_); rintro e w4 ⟨rfl, hb⟩))
  rename_i hS
  have HB := Lib.hid (lastP5 hS)
  clear hS
  go_wp2
  obtain ⟨z0, z1, z2⟩ := HZJ.out
  refine bodyPost_ret_by (v := ndV true (.slice a5 n5 c5) (.slice none 0 0)) ?_ rfl ?_
  · simp [ndV, results, Tryz.results57, go_sem, z0, z1, z2]
  · have hq := Nat.lt_succ_self (w.heap.size + 1 + 1)
    exact ⟨_, rfl, ⟨_, _, rfl, (((HR6.out.set hq _).set hq _).set hq _).sl, HCP.out, SlK.nil _, cap_nil⟩, HB.out⟩
end Go.Proofs.YtdgcdekgleegbaaGreat
/- A tree over a space in memory: its box; Over, find, bottom. -/
namespace Go.Proofs.YtdgcdekgleegbaaGreat
open Go.RowKit Go.Maps
open Sl (Cl Kd Nd Rn)
/-- A tree's box q: its space's box p, its root. -/
structure Tr (w : World) (q p root : Nat) : Prop where
  c0 : w.cell? ⟨q, 0, none⟩ = some (.pointer (some ⟨p, 0, none⟩))
  c1 : w.cell? ⟨q, 1, none⟩ = some (.int .u32 root)
  f0 : w.frozen? ⟨q, 0, none⟩ = false
  f1 : w.frozen? ⟨q, 1, none⟩ = false
  ty : BoxT w q 44
theorem Tr.lt {w : World} {q p root : Nat} (h : Tr w q p root) : q < w.heap.size := World.block_lt_of_cell? _ _ h.c0
theorem Tr.below {w w' : World} {q p root : Nat} (h : Tr w q p root) (hb : Below w.heap.size w w') : Tr w' q p root :=
  ⟨(hb.cell (p := ⟨q, 0, none⟩) h.lt).trans h.c0, (hb.cell (p := ⟨q, 1, none⟩) h.lt).trans h.c1, (hb.frozen (p := ⟨q, 0, none⟩) h.lt).trans h.f0, (hb.frozen (p := ⟨q, 1, none⟩) h.lt).trans h.f1, h.ty.below hb⟩
theorem Tr.two {w w' : World} {q p b root x : Nat} (h : Tr w q p root) (ht : Two x b w w') (hx : q ≠ x) (hb : q ≠ b) : Tr w' q p root :=
  ⟨ht.cell hx hb h.c0, ht.cell hx hb h.c1, (ht.froz hx hb h.lt).trans h.f0, (ht.froz hx hb h.lt).trans h.f1, h.ty.two ht hx hb⟩
theorem Tr.setRoot {w : World} {q p root : Nat} (h : Tr w q p root) (x : Nat) : Tr (w.setCell ⟨q, 1, none⟩ (.int .u32 x)) q p x :=
  ⟨(World.cell?_setCell_other _ _ _ _ (by simp)).trans h.c0, World.cell?_setCell_same' _ _ _ (by rw [h.c1]; rfl), (World.frozen?_setCell _ _ _ _).trans h.f0, (World.frozen?_setCell _ _ _ _).trans h.f1, h.ty.set _ _⟩
theorem Tr.box {w : World} {q p root : Nat} (h : Tr w q p root) {x : Nat} {T : TypeId} (_hx : BoxT w x T) (hq : x ≠ q) {i : Nat} (u : Value) : Tr (w.setCell ⟨x, i, none⟩ u) q p root := by
  have o : ∀ j, (w.setCell ⟨x, i, none⟩ u).cell? ⟨q, j, none⟩ = w.cell? ⟨q, j, none⟩ := fun j => World.cell?_setCell_other _ _ _ _ (fun e => hq (congrArg Addr.block e))
  exact ⟨(o 0).trans h.c0, (o 1).trans h.c1, (World.frozen?_setCell _ _ _ _).trans h.f0, (World.frozen?_setCell _ _ _ _).trans h.f1, h.ty.set _ _⟩
theorem tover_any (p root : Nat) (w : World) : Calls Tryz.prog 10 #[.pointer (some ⟨p, 0, none⟩), .int .u32 root] w fun e w' => e = .returned (.pointer (some ⟨w.heap.size, 0, none⟩)) ∧ Tr w' w.heap.size p root ∧ Below w.heap.size w w' := by
  go_enter Tryz.func10, Tryz.ntmps10
  go_wp2
  go_ret
  have c := fun i => World.cell?_alloc_new w #[.pointer (some ⟨p, 0, none⟩), .int .u32 root] 44 i
  have f := fun i => World.frozen?_alloc_new w #[.pointer (some ⟨p, 0, none⟩), .int .u32 root] 44 i
  exact ⟨rfl, ⟨c 0, c 1, f 0, f 1, BoxT.new _ _ _⟩, (Below.refl _ _).alloc (Nat.le_refl _) _⟩
theorem start_fd (w : World) (x1 x2 : Value) (lf : Bool) : Kp w.heap.size w (row1 (w.heap.size + 1) zcl) ((w.alloc (.cells #[.bool lf, x1, x2] 71)).alloc (.cells #[.string ⟨#[]⟩, .string ⟨#[]⟩, .int .u32 0, .int .u32 0] 32)) ∧ Kp w.heap.size w (row1 w.heap.size #[.bool lf, x1, x2]) ((w.alloc (.cells #[.bool lf, x1, x2] 71)).alloc (.cells #[.string ⟨#[]⟩, .string ⟨#[]⟩, .int .u32 0, .int .u32 0] 32)) := by
  have h0 := Kp.laid (Below.refl _ w) (Nat.le_refl _) #[.bool lf, x1, x2] 71
  have h1 := h0.step (Nat.le_refl _) ((Below.refl _ _).alloc (Nat.le_refl _) (.cells #[.string ⟨#[]⟩, .string ⟨#[]⟩, .int .u32 0, .int .u32 0] 32))
  have h2 := Kp.laid h0.below h0.below.size #[.string ⟨#[]⟩, .string ⟨#[]⟩, .int .u32 0, .int .u32 0] 32
  have hS : (w.alloc (.cells #[.bool lf, x1, x2] 71)).heap.size = w.heap.size + 1 := by simp
  rw [hS] at h2
  exact ⟨h2, h1⟩
theorem below_set4 {B g : Nat} {w w1 : World} {a b c d : Value} (h : Below B w w1) (hg : B ≤ g) : Below B w ((((w1.setCell ⟨g, 0, none⟩ a).setCell ⟨g, 1, none⟩ b).setCell ⟨g, 2, none⟩ c).setCell ⟨g, 3, none⟩ d) := (below_set3 h hg).setCell (p := ⟨g, 3, none⟩) hg _
theorem find_both (v : Value) (n : Nd) (key : List UInt8) (w : World) (hv : NdV w v n) (hl : n.cs.length ≤ 100000) (hr : Sl.rises Sl.shC n.cs = true) (th : Bool) (ht : Sl.there Sl.shC n.cs key = th) (x : Cl) (hx : if th then n.cs[Sl.place Sl.shC n.cs key]? = some x else x = ⟨[], [], 0, 0⟩) :
    Calls Tryz.prog 50 #[v, .string (str key)] w fun e w' => e = .returned (.tuple #[.agg #[.string (str x.key), .string (str x.val), .int .u32 x.chain, .int .u32 x.long], .bool th]) ∧ Below w.heap.size w w' := by
  have HLV := Lib.hid (fun W => leaves_any W)
  have HFD := Lib.hid (fun W v (hW : SlC W v n.cs) => findC_any v n.cs hl key W hW hr)
  rw [ht] at HFD
  obtain ⟨vc, vk, rfl, hc, hcc, hk, hkk⟩ := hv
  have HV := Lib.hid hc
  unfold ndV
  unfold shpC at HLV HFD
  obtain ⟨a, m, c, _, _, _⟩ := hcc
  obtain ⟨a', m', c', _, _, _⟩ := hkk
  obtain ⟨HS1, HS2⟩ := start_fd w (.slice a m c) (.slice a' m' c') n.leaf
  have HST := Lib.hid HS1
  have HST2 := Lib.hid HS2
  clear hc hk hr HS1 HS2 ht
  generalize n.cs = l at *
  generalize Sl.place Sl.shC l key = p at *
  generalize n.leaf = lf at *
  go_enter Tryz.func50, Tryz.ntmps50
  go_wp2_with fail
  generalize ((w.alloc (.cells #[.bool lf, .slice a m c, .slice a' m' c'] 71)).alloc (.cells #[.string ⟨#[]⟩, .string ⟨#[]⟩, .int .u32 0, .int .u32 0] 32)) = W6 at HST HST2 ⊢
  have hF : Hid (W6.drew.cell? ⟨w.heap.size, 0, none⟩ = some (.bool lf) ∧ W6.drew.cell? ⟨w.heap.size, 1, none⟩ = some (.slice a m c) ∧ W6.drew.cell? ⟨w.heap.size, 2, none⟩ = some (.slice a' m' c') ∧ Below W6.heap.size W6 W6.drew) := by
    obtain ⟨⟨c0, c1, c2⟩, _⟩ := HST2.out.three
    exact ⟨c0, c1, c2, (Below.refl _ _).drew⟩
  go_region_held3 (fun w' => w'.cell? ⟨w.heap.size, 0, none⟩ = some (.bool lf) ∧ w'.cell? ⟨w.heap.size, 1, none⟩ = some (.slice a m c) ∧ w'.cell? ⟨w.heap.size, 2, none⟩ = some (.slice a' m' c') ∧ Below W6.heap.size W6 w')
    ((first | assumption | exact step3b (Nat.le_refl _) ‹_› hb | exact hF.out))
    (first
    | (go_at_call 55; (with_reducible refine (HLV.out _).mono ?_); rintro e w7 ⟨rfl, hb⟩)
    | (go_at_call 79; (refine (HFD.out _ _ (HV.out.below (HST.out.below.trans ((last3b (by assumption)).mono HST.out.below.size)))).mono ?_); rintro e w8 ⟨rfl, hb⟩))
  rename_i hS
  have HS := Lib.hid hS
  clear hS hF
  have HK8 := Lib.hid (HST.out.step (Nat.le_refl _) (last3b HS.out))
  have HK9 := Lib.hid (HST2.out.step (Nat.le_refl _) (last3b HS.out))
  have HB8 := Lib.hid HK8.out.below
  obtain ⟨⟨c0, c1, c2⟩, _⟩ := HK9.out.three
  obtain ⟨⟨y0, y1, y2, y3⟩, g0, g1, g2, g3⟩ := HK8.out.four
  have HV8 := Lib.hid (HV.out.below HK8.out.below)
  have hq := Nat.lt_succ_self w.heap.size
  cases th with
  | false =>
    simp only [Bool.false_eq_true, if_false] at hx
    subst hx
    go_wp2
    refine bodyPost_ret_by (v := .tuple #[.agg #[.string ⟨#[]⟩, .string ⟨#[]⟩, .int .u32 0, .int .u32 0], .bool false]) ?_ rfl ⟨rfl, ?_⟩
    · simp [results, Tryz.results50, go_sem, y0, y1, y2, y3]
    · exact below_set4 HB8.out (Nat.le_succ _)
  | true =>
    rw [if_pos rfl] at hx
    obtain ⟨a1, b1, o1, cc1, he, ha1, hcell⟩ := HV8.out
    have hp := (List.getElem?_eq_some_iff.1 hx).1
    obtain ⟨e0, e1, e2, e3⟩ := hcell p x hx
    obtain rfl : a = a1 := by cases he; rfl
    obtain rfl : m = l.length := by cases he; rfl
    have ha2 := ha1.resolve_left (by intro h; rw [h] at hp; cases hp)
    subst ha2
    have HX := Lib.hid hx
    clear hcell ha1 he hx
    go_wp2
    refine bodyPost_ret_by (v := .tuple #[.agg #[.string (str x.key), .string (str x.val), .int .u32 x.chain, .int .u32 x.long], .bool true]) ?_ rfl ⟨rfl, ?_⟩
    · simp [results, Tryz.results50, go_sem, y0, y1, y2, y3]
    · exact below_set4 HB8.out (Nat.le_succ _)
theorem bottom_nil (w : World) : Calls Tryz.prog 47 #[.slice none 0 0] w fun e w' => e = .returned (ndV true (.slice none 0 0) (.slice none 0 0)) ∧ Below w.heap.size w w' := by
  go_enter Tryz.func47, Tryz.ntmps47
  go_wp2
  refine bodyPost_ret_by (v := ndV true (.slice none 0 0) (.slice none 0 0)) ?_ rfl ⟨rfl, (Below.refl _ _).alloc (Nat.le_refl _) _⟩
  simp [ndV, results, Tryz.results47, go_sem]
end Go.Proofs.YtdgcdekgleegbaaGreat
/- A tree over a space in memory: load, and the deferred closures that find nothing to recover. -/
namespace Go.Proofs.YtdgcdekgleegbaaGreat
open Go.RowKit Go.Maps
open Sl (Cl Kd Nd Rn)
theorem idleLoad (p q : Addr) (w : World) :
    CallsD Tryz.prog 113 #[.pointer (some p), .pointer (some q)] .returning w fun e u' w' => e = .returned (.tuple #[]) ∧ u' = .returning ∧ w' = w := by
  refine callsD_of_wpS Tryz.func113 rfl fun c₀ cs hu => ?_
  apply wpS_seq
  apply wpS_region
  simp [wpOpsS, go_sem, recoverD, hu, Tryz.ntmps113, Exit.thenS]
  refine wpS_cond (t := false) (by simp [Act.eval, Array.replicate]) ?_
  simp only [Bool.false_eq_true, if_false]
  refine wpS_of_wp (wp_skip ?_)
  cases c₀
  simp_all [bodyPostS, results, Tryz.results113]
theorem idleSettle (p : Addr) (w : World) :
    CallsD Tryz.prog 81 #[.pointer (some p)] .returning w fun e u' w' => e = .returned (.tuple #[]) ∧ u' = .returning ∧ w' = w := by
  refine callsD_of_wpS Tryz.func81 rfl fun c₀ cs hu => ?_
  apply wpS_seq
  apply wpS_region
  simp [wpOpsS, go_sem, recoverD, hu, Tryz.ntmps81, Exit.thenS]
  refine wpS_cond (t := false) (by simp [Act.eval, Array.replicate]) ?_
  simp only [Bool.false_eq_true, if_false]
  refine wpS_of_wp (wp_skip ?_)
  cases c₀
  simp_all [bodyPostS, results, Tryz.results81]
theorem Kp.one {B : Nat} {w0 w : World} {g : Nat} {x0 : Value} (h : Kp B w0 (row1 g #[x0]) w) : w.cell? ⟨g, 0, none⟩ = some x0 ∧ w.frozen? ⟨g, 0, none⟩ = false :=
  ⟨h.cell (⟨g, 0, none⟩, x0) (by simp [row1]), h.froz (⟨g, 0, none⟩, x0) (by simp [row1])⟩
theorem start_ld (w : World) : Kp w.heap.size w (row1 w.heap.size zn ++ row1 (w.heap.size + 1) #[.int .i64 0]) ((w.alloc (.cells #[.bool false, .slice none 0 0, .slice none 0 0] 71)).alloc (.cells #[.int .i64 0] 38)) := by
  have h0 := Kp.laid (Below.refl _ w) (Nat.le_refl _) #[.bool false, .slice none 0 0, .slice none 0 0] 71
  have h2 := h0.more (Nat.le_refl _) #[.int .i64 0] 38
  have hS : (w.alloc (.cells #[.bool false, .slice none 0 0, .slice none 0 0] 71)).heap.size = w.heap.size + 1 := by simp
  rw [hS] at h2
  exact h2
theorem meth_load (a : Addr) (w : World) : (method 371 24 (.pointer (some a)) "Load").run Tryz.prog w = .ok (29, .pointer (some a)) w := by kernel_rfl
theorem meth_make (a : Addr) (w : World) : (method 371 24 (.pointer (some a)) "Make").run Tryz.prog w = .ok (26, .pointer (some a)) w := by kernel_rfl
theorem ld_cells {w1 : World} {g : Nat} {u0 u1 u2 u3 x0 x1 x2 x3 : Value} (z0 : w1.cell? ⟨g, 0, none⟩ = some u0) (z1 : w1.cell? ⟨g, 1, none⟩ = some u1) (z2 : w1.cell? ⟨g, 2, none⟩ = some u2) (y0 : w1.cell? ⟨g + 1, 0, none⟩ = some u3) {w2 : World} (hw : w2 = (((((((w1.setCell ⟨g, 0, none⟩ x0).setCell ⟨g, 1, none⟩ x1).setCell ⟨g, 2, none⟩ x2).setCell ⟨g + 1, 0, none⟩ x3).setCell ⟨g, 0, none⟩ x0).setCell ⟨g, 1, none⟩ x1).setCell ⟨g, 2, none⟩ x2).setCell ⟨g + 1, 0, none⟩ x3) :
    w2.cell? ⟨g, 0, none⟩ = some x0 ∧ w2.cell? ⟨g, 1, none⟩ = some x1 ∧ w2.cell? ⟨g, 2, none⟩ = some x2 ∧ w2.cell? ⟨g + 1, 0, none⟩ = some x3 := by
  subst hw
  have o : ∀ (W : World) (p q : Addr) (x : Value), p ≠ q → (W.setCell p x).cell? q = W.cell? q := fun W p q x h => World.cell?_setCell_other _ _ _ _ h
  have i0 : (w1.cell? ⟨g, 0, none⟩).isSome = true := by rw [z0]; rfl
  have i1 : (w1.cell? ⟨g, 1, none⟩).isSome = true := by rw [z1]; rfl
  have i2 : (w1.cell? ⟨g, 2, none⟩).isSome = true := by rw [z2]; rfl
  have i3 : (w1.cell? ⟨g + 1, 0, none⟩).isSome = true := by rw [y0]; rfl
  refine ⟨?_, ?_, ?_, ?_⟩
  · rw [o _ _ _ _ (by simp), o _ _ _ _ (by simp), o _ _ _ _ (by simp)]
    exact World.cell?_setCell_same' _ _ _ (isSome_set (isSome_set (isSome_set (isSome_set i0))))
  · rw [o _ _ _ _ (by simp), o _ _ _ _ (by simp)]
    exact World.cell?_setCell_same' _ _ _ (isSome_set (isSome_set (isSome_set (isSome_set (isSome_set i1)))))
  · rw [o _ _ _ _ (by simp)]
    exact World.cell?_setCell_same' _ _ _ (isSome_set (isSome_set (isSome_set (isSome_set (isSome_set (isSome_set i2))))))
  · exact World.cell?_setCell_same' _ _ _ (isSome_set (isSome_set (isSome_set (isSome_set (isSome_set (isSome_set (isSome_set i3)))))))
theorem tload_some {w : World} {q p b B n made frozen root : Nat} {F : Nat → Option Nd} (h : Mem w p b B n made frozen F) (t : Tr w q p root) {k : Nat} (hk : k < 4294967296) {nd : Nd} (hF : F k = some nd) (h1 : nd.cs.length ≤ 100000) (h2 : nd.ks.length ≤ 100000) :
    Calls Tryz.prog 74 #[.pointer (some ⟨q, 0, none⟩), .int .u32 k] w fun e w' => ∃ v, e = .returned (.tuple #[v, .int .i64 0]) ∧ NdO w' w.heap.size v nd ∧ Below w.heap.size w w' := by
  have hmf : ∀ (fn : Fn) (first cap : Array Value) (w : World), (Instr.makeFunc fn first cap).run Tryz.prog w = .ok (.func fn first cap) w := fun _ _ _ _ => rfl
  have HL := Lib.hid (fun W (hW : Below w.heap.size w W) => load_some (h.below hW) hk hF h1 h2)
  have HT := Lib.hid (fun W (hW : Below w.heap.size w W) => t.below hW)
  have HST := Lib.hid (start_ld w)
  have c0 := (HT.out _ HST.out.below).c0
  have hmeth := meth_load ⟨p, 0, none⟩
  clear h
  go_enter_defers Tryz.func74, Tryz.ntmps74
  go_wp2_with (go_at_call 29; refine (HL.out _ HST.out.below).mono ?_; rintro e w1 ⟨v1, rfl, hv1, hb1⟩; have HK1 := Lib.hid (HST.out.step (Nat.le_refl _) hb1); have HV1 := Lib.hid hv1; obtain ⟨⟨z0, z1, z2⟩, f0, f1, f2⟩ := HK1.out.left.zn; obtain ⟨y0, g0⟩ := HK1.out.right.one; obtain ⟨vc, vk, rfl, hc, hrk⟩ := hv1; obtain ⟨a5, n5, c5, _, _, _⟩ := hc.cap; obtain ⟨a6, n6, c6, _, _, _⟩ := hrk.cap; unfold ndV; have HC := Lib.hid hc; have HRK := Lib.hid hrk; clear hb1 hc hrk)
  refine leaves_cons (f := 113) (args := #[.pointer (some ⟨w.heap.size, 0, none⟩), .pointer (some ⟨w.heap.size + 1, 0, none⟩)]) (by simp) (by simp [go_sem]) ?_
  refine (idleLoad ⟨w.heap.size, 0, none⟩ ⟨w.heap.size + 1, 0, none⟩ _).mono ?_
  rintro e u' w'' ⟨rfl, rfl, hw⟩
  obtain ⟨d0, d1, d2, d3⟩ := ld_cells z0 z1 z2 y0 hw
  have hq0 : w.heap.size < ((w.alloc (.cells #[.bool false, .slice none 0 0, .slice none 0 0] 71)).alloc (.cells #[.int .i64 0] 38)).heap.size := by simp; omega
  have hq1 : w.heap.size + 1 < ((w.alloc (.cells #[.bool false, .slice none 0 0, .slice none 0 0] 71)).alloc (.cells #[.int .i64 0] 38)).heap.size := by simp
  have HN : NdO w'' w.heap.size (ndV nd.leaf (.slice a5 n5 c5) (.slice a6 n6 c6)) nd := by
    rw [hw]
    exact ⟨_, _, rfl, (((((((((HC.out.set hq0 _).set hq0 _).set hq0 _).set hq1 _).set hq0 _).set hq0 _).set hq0 _).set hq1 _).base (Nat.le_of_lt hq0)), (((((((((HRK.out.set hq0 _).set hq0 _).set hq0 _).set hq1 _).set hq0 _).set hq0 _).set hq0 _).set hq1 _).base (Nat.le_of_lt hq0))⟩
  have HBw : Below w.heap.size w w'' := by
    rw [hw]
    exact (below_set3 ((below_set3 HK1.out.below (Nat.le_refl _)).setCell (p := ⟨w.heap.size + 1, 0, none⟩) (Nat.le_succ _) _) (Nat.le_refl _)).setCell (p := ⟨w.heap.size + 1, 0, none⟩) (Nat.le_succ _) _
  clear hw
  simp [Leaves, settle, results, Tryz.results74, go_sem, d0, d1, d2, d3]
  exact ⟨HN, HBw⟩
end Go.Proofs.YtdgcdekgleegbaaGreat
/- A tree over a space in memory: the way of an empty tree, and of one whose root is a leaf; settle of an empty tree. -/
namespace Go.Proofs.YtdgcdekgleegbaaGreat
open Go.RowKit Go.Maps
open Sl (Cl Kd Nd Rn)
/-- A tree's box and its space's. -/
structure TS (w : World) (q p b B n made frozen root : Nat) (F : Nat → Option Nd) : Prop where
  mem : Mem w p b B n made frozen F
  tr : Tr w q p root
  qp : q ≠ p
  qb : q ≠ b
theorem TS.below {w w' : World} {q p b B n made frozen root : Nat} {F : Nat → Option Nd} (h : TS w q p b B n made frozen root F) (hb : Below w.heap.size w w') : TS w' q p b B n made frozen root F :=
  ⟨h.mem.below hb, h.tr.below hb, h.qp, h.qb⟩
/-- Of an empty space the base may be set anew. -/
theorem Mem.anew {w : World} {p b B B' n made frozen : Nat} (h : Mem w p b B n made frozen (fun _ => none)) (hp : p < B') (hb : b < B') : Mem w p b B' n made frozen (fun _ => none) := by
  obtain ⟨f, hm, h1, h2⟩ := h.map
  exact ⟨h.c0, h.c1, h.c2, h.f0, h.f1, h.f2, ⟨f, hm, h1, fun k nd _ hF => by cases hF⟩, hp, hb, h.ne⟩
theorem tree_not_nil (w : World) (q : Nat) : (binOp .eql 26 (.pointer (some ⟨q, 0, none⟩)) (.pointer none)).run Tryz.prog w = .ok (.bool false) w := by kernel_rfl
theorem way_empty {w : World} {q p : Nat} (t : Tr w q p 0) (key : List UInt8) :
    Calls Tryz.prog 46 #[.pointer (some ⟨q, 0, none⟩), .string (str key)] w fun e w' => e = .returned (.tuple #[.slice none 0 0, .int .i64 0]) ∧ w = w' := by
  have c1 := t.c1
  clear t
  go_enter Tryz.func46, Tryz.ntmps46
  go_wp2
  go_ret2
  exact ⟨rfl, rfl⟩
theorem infoStep : (Tryz.prog.info? 141).map (fun i => (i.zero, i.size, i.bytes)) = some (some (.agg #[.bool false, .slice none 0 0, .slice none 0 0, .int .i64 0]), 4, 64) := by kernel_rfl
theorem way_leaf {w : World} {q p b B n made frozen k : Nat} {F : Nat → Option Nd} (h : TS w q p b B n made frozen k F) (hk : k < 4294967296) (hk0 : 0 < k) {nd : Nd} (hF : F k = some nd) (hlf : nd.leaf = true) (h1 : nd.cs.length ≤ 100000) (h2 : nd.ks.length ≤ 100000) (key : List UInt8) :
    Calls Tryz.prog 46 #[.pointer (some ⟨q, 0, none⟩), .string (str key)] w fun e w' => ∃ v a5 n5 c5 a6 n6 c6, e = .returned (.tuple #[v, .int .i64 0]) ∧ w'.ownsRow w.heap.size 141 4 v 1 [.bool true, .slice a5 n5 c5, .slice a6 n6 c6, .int .i64 0] ∧ NdV w' (ndV true (.slice a5 n5 c5) (.slice a6 n6 c6)) nd ∧ Below w.heap.size w w' := by
  obtain ⟨i0, hi, hz0, hz1, hz2⟩ := info_parts infoStep
  have HL := Lib.hid (fun W (hW : Below w.heap.size w W) => tload_some (h.mem.below hW) (h.tr.below hW) hk hF h1 h2)
  have HT := Lib.hid h
  have c1 := h.tr.c1
  clear h
  go_enter Tryz.func46, Tryz.ntmps46
  go_wp2
  go_loopg [6, 7, 24] 1 (fun n s d i wr => n = 1 ∧ s = .slice none 0 0 ∧ d = .int .u32 k ∧ i = .int .i64 0 ∧ w = wr)
  case atStart => exact ⟨rfl, rfl, rfl, rfl, rfl⟩
  case round =>
    obtain ⟨rfl, rfl, rfl, rfl, rfl⟩ := hrel
    go_wp2_with (first
      | (go_at_call 74; refine (HL.out _ (Below.refl _ _)).mono ?_; rintro e w1 ⟨v1, rfl, hv1, hb1⟩; obtain ⟨vc, vk, rfl, hc, hrk⟩ := hv1; obtain ⟨a5, n5, c5, _, _, _⟩ := hc.cap; obtain ⟨a6, n6, c6, _, _, _⟩ := hrk.cap; rw [hlf]; unfold ndV; have HC := Lib.hid hc; have HRK := Lib.hid hrk; have HB1 := Lib.hid hb1; clear hb1 hc hrk)
      | (at_builtin; refine wpList_append_own _ rfl _ _ 99 rfl w.heap.size 141 i0 _ 4 64 Tryz.underlying99 hi hz0 hz1 hz2 rfl (by decide) _ 0 _ rfl (((World.ownsRow_nil _ _ _ _).alloc _).alloc _) ⟨w1.heap.size + 1, 0, none⟩ 1 1 [.bool true, .slice a5 n5 c5, .slice a6 n6 c6, .int .i64 0] rfl rfl ?p1 ?p2 ?p3 ?p4 ?p5 ?_))
    case p1 =>
      intro i x hx
      rw [show (⟨w1.heap.size + 1, 0, none⟩ : Addr).add i = ⟨w1.heap.size + 1, i, none⟩ by unfold Addr.add; split <;> simp_all]
      exact (box1 w1 _ _ _ _ i).trans (by simpa using hx)
    case p2 =>
      intro u hu
      simp at hu
      rcases hu with rfl | rfl | rfl | rfl <;> rfl
    case p3 => unfold maxLen; omega
    case p4 => omega
    case p5 => have := HB1.out.size; simp; omega
    intro v' w4 hown' hgrow _
    have HB14 : Below w1.heap.size w1 w4 := (boxB w1 _ _).grown hgrow (by simp; omega) (fun g hg => by cases hg)
    have HB4 := Lib.hid (HB1.out.trans (HB14.mono HB1.out.size))
    have HN4 : Hid (NdV w4 (ndV true (.slice a5 n5 c5) (.slice a6 n6 c6)) nd) := by
      have := (NdO.nd (n := nd) ⟨_, _, rfl, HC.out, HRK.out⟩).below HB14
      rw [hlf] at this
      exact this
    have HO4 := Lib.hid hown'
    clear hown' hgrow HB14
    obtain ⟨a7, n7, c7, rfl⟩ : ∃ a n c, v' = .slice a n c := by
      rcases HO4.out.2 with ⟨rfl, _⟩ | ⟨g, cap, cur, rfl, _⟩
      · exact ⟨_, _, _, rfl⟩
      · exact ⟨_, _, _, rfl⟩
    go_wp2
    go_ret2
    exact ⟨_, a5, n5, c5, a6, n6, c6, rfl, by simpa using HO4.out, HN4.out, HB4.out⟩
/-- An end that no panic meets. -/
def calm (Q : Exit → Act → World → Prop) : Exit → Act → World → Prop
  | .panic _, _, _ => False
  | e, a, w => Q e a w
theorem calm_le {Q : Exit → Act → World → Prop} {e : Exit} {a : Act} {w : World} (h : calm Q e a w) : Q e a w := by
  cases e <;> first | exact h | exact h.elim
theorem settle_empty {w : World} {q p b B n made frozen : Nat} {F : Nat → Option Nd} (h : TS w q p b B n made frozen 0 F) (hB : B ≤ w.heap.size) (v : Value) (nd : Nd) (hv : NdV w v nd) (h1 : nd.cs.length ≤ 100000) (h2 : nd.ks.length ≤ 100000) (hm : made ≤ 1000000) (hn : n ≤ 1000000) :
    Calls Tryz.prog 49 #[.pointer (some ⟨q, 0, none⟩), .slice none 0 0, v] w fun e w' => e = .returned (.int .i64 0) ∧ TS w' q p b B (n + 1) (made + 1) frozen (2 + made) (upd F (2 + made) (some nd)) ∧ Off (fun k => k = p ∨ k = b ∨ k = q) w w' := by
  have hmf : ∀ (fn : Fn) (first cap : Array Value) (w : World), (Instr.makeFunc fn first cap).run Tryz.prog w = .ok (.func fn first cap) w := fun _ _ _ _ => rfl
  have HM := Lib.hid (fun W (hW : Below w.heap.size w W) => make_any (h.mem.below hW) (Nat.le_trans hB hW.size) v nd (hv.below hW) h1 h2 hm hn)
  have HT := Lib.hid (fun W (hW : Below w.heap.size w W) => h.below hW)
  have hmeth := meth_make ⟨p, 0, none⟩
  obtain ⟨vc, vk, rfl, _, hcc, _, hkk⟩ := hv
  unfold ndV at HM ⊢
  obtain ⟨a, m, c, _, _, _⟩ := hcc
  obtain ⟨a', m', c', _, _, _⟩ := hkk
  have HST : Hid (Below w.heap.size w ((w.alloc (.cells #[.bool nd.leaf, .slice a m c, .slice a' m' c'] 71)).alloc (.cells #[.int .i64 0] 38))) := boxB w _ _
  have c0 := (HT.out _ HST.out).tr.c0
  have c1 := (HT.out _ HST.out).tr.c1
  have hqp := h.qp
  have hqlt := h.tr.lt
  have hqb := h.qb
  have hxp : w.heap.size + 1 ≠ p := by have := h.mem.p_lt; omega
  have hxb : w.heap.size + 1 ≠ b := by have := h.mem.b_lt; omega
  have HY : Hid (((w.alloc (.cells #[.bool nd.leaf, .slice a m c, .slice a' m' c'] 71)).alloc (.cells #[.int .i64 0] 38)).drew.cell? ⟨w.heap.size + 1, 0, none⟩ = some (.int .i64 0) ∧ ((w.alloc (.cells #[.bool nd.leaf, .slice a m c, .slice a' m' c'] 71)).alloc (.cells #[.int .i64 0] 38)).drew.frozen? ⟨w.heap.size + 1, 0, none⟩ = false) := ⟨box1 w _ _ _ _ 0, box1f w _ _ _ _ 0⟩
  clear h hB
  go_enter_defers Tryz.func49, Tryz.ntmps49
  go_wp2_with fail
  refine wp_mono (Q := calm _) ?_ (fun _ _ _ h => calm_le h)
  have HBX : Hid (BoxT ((w.alloc (.cells #[.bool nd.leaf, .slice a m c, .slice a' m' c'] 71)).alloc (.cells #[.int .i64 0] 38)).drew (w.heap.size + 1) 38) := by
    have := BoxT.new (w.alloc (.cells #[.bool nd.leaf, .slice a m c, .slice a' m' c'] 71)) #[.int .i64 0] 38
    rw [show (w.alloc (.cells #[.bool nd.leaf, .slice a m c, .slice a' m' c'] 71)).heap.size = w.heap.size + 1 by simp] at this
    exact this
  go_region_with (go_at_call 26; refine (HM.out _ HST.out.drew).mono ?_; rintro e w1 ⟨rfl, hm1, ht1⟩; have HM1 := Lib.hid hm1; have HT1 := Lib.hid ht1; have HR1 := Lib.hid ((HT.out _ HST.out.drew).tr.two ht1 hqp hqb); have HX1 := Lib.hid (HBX.out.two ht1 hxp hxb); have k1 := HR1.out.c1; have k2 := HR1.out.f1; have k3 := ht1.cell hxp hxb HY.out.1; have k4 := (ht1.froz hxp hxb (World.block_lt_of_cell? _ _ HY.out.1)).trans HY.out.2; clear hm1 ht1)
  all_goals
    unfold calm
    go_wp2
    refine leaves_cons (f := 81) (args := #[.pointer (some ⟨w.heap.size + 1, 0, none⟩)]) (by simp) (by simp [go_sem]) ?_
    refine (idleSettle ⟨w.heap.size + 1, 0, none⟩ _).mono ?_
    rintro e u' w'' ⟨rfl, rfl, hw⟩
    have hc : w''.cell? ⟨w.heap.size + 1, 0, none⟩ = some (.int .i64 0) := by
      rw [hw]
      exact World.cell?_setCell_same' _ _ _ (isSome_set (isSome_set (by rw [k3]; rfl)))
    have hTS : TS w'' q p b B (n + 1) (made + 1) frozen (2 + made) (upd F (2 + made) (some nd)) := by
      rw [hw]
      have t1 := HR1.out.setRoot (2 + made)
      have m1 := HM1.out.box HR1.out.ty (by decide) (by decide) hqp hqb 1 (.int .u32 ((2 + made : Nat) : Int))
      have x1 := HX1.out.set ⟨q, 1, none⟩ (.int .u32 ((2 + made : Nat) : Int))
      have t2 := t1.box x1 (by omega) (i := 0) (.int .i64 0)
      have m2 := m1.box x1 (by decide) (by decide) hxp hxb 0 (.int .i64 0)
      have x2 := x1.set ⟨w.heap.size + 1, 0, none⟩ (.int .i64 0)
      exact ⟨m2.box x2 (by decide) (by decide) hxp hxb 0 _, t2.box x2 (by omega) (i := 0) _, hqp, hqb⟩
    have hOff : Off (fun k => k = p ∨ k = b ∨ k = q) w w'' := by
      rw [hw]
      exact ((((Off.of HST.out.drew).trans (Off.two HT1.out (.inl rfl) (.inr (.inl rfl)))).set (.inl (.inr (.inr rfl))) 1 _).set (.inr (Nat.le_succ _)) 0 _).set (.inr (Nat.le_succ _)) 0 _
    clear hw
    simp [Leaves, settle, results, Tryz.results49, go_sem, hc]
    exact ⟨hTS, hOff⟩
end Go.Proofs.YtdgcdekgleegbaaGreat
/- The contracts of strings.Builder's copyCheck and WriteString in this program. -/
namespace Go.Proofs.YtdgcdekgleegbaaGreat
open Go.RowKit
theorem size86 : (Tryz.prog.info? 155).map (fun i => i.size) = some 2 := by kernel_rfl
theorem lies86 : liesAt Tryz.prog Tryz.prog.depth 155 (2 / Tryz.prog.cellsOf 155) 0 155 1 = true := by kernel_rfl
theorem infoByte : (Tryz.prog.info? 5).map (fun i => (i.zero, i.size, i.bytes)) = some (some (.int .u8 0), 1, 1) := by kernel_rfl
set_option maxRecDepth 100000 in
theorem copyCheck_used (b : Nat) (w : World) (h0 : w.cell? ⟨b, 0, none⟩ = some (.pointer (some ⟨b, 0, none⟩))) :
    Calls Tryz.prog 138 #[.pointer (some ⟨b, 0, none⟩)] w fun e w' => e = .returned (.tuple #[]) ∧ w = w' := by
  obtain ⟨j, hj, _⟩ := Option.map_eq_some_iff.1 size86
  go_enter Tryz.func138, Tryz.ntmps138
  go_wp2
  rw [Lib.run_neq_ptr_same w _ Tryz.underlying153 hj]
  go_wp2
  go_end0
  exact ⟨rfl, rfl⟩
set_option maxRecDepth 100000 in
theorem copyCheck_fresh (b : Nat) (w : World) (h0 : w.cell? ⟨b, 0, none⟩ = some (.pointer none)) (hsh : w.shape? b = some (155, 2)) (hfz : w.frozen? ⟨b, 0, none⟩ = false) :
    Calls Tryz.prog 138 #[.pointer (some ⟨b, 0, none⟩)] w fun e w' => e = .returned (.tuple #[]) ∧ w.setCell ⟨b, 0, none⟩ (.pointer (some ⟨b, 0, none⟩)) = w' := by
  obtain ⟨j, hj, hjs⟩ := Option.map_eq_some_iff.1 size86
  have h1 := Lib.run_to_unsafe (P := Tryz.prog) w ⟨b, 0, none⟩ Tryz.underlying153 Tryz.underlying231 hj (by rw [hjs]; decide) hsh (Nat.zero_lt_succ 1)
  have h2 := Lib.run_from_unsafe (P := Tryz.prog) w ⟨b, 0, none⟩ Tryz.underlying231 Tryz.underlying153 hj hsh lies86
  go_enter Tryz.func138, Tryz.ntmps138
  go_wp2
  rw [run_callFunc_extern Tryz.func163 (by kernel_rfl) (by kernel_rfl) (by kernel_rfl) (e := Extern.AbiNoEscape.same) (by kernel_rfl), Lib.run_noEscape]
  simp only [Result.andThen]
  rw [Oper.upon_value]
  go_wp2
  go_end0
  exact ⟨rfl, rfl⟩
theorem copyCheck_any (B b : Nat) (bs : List Value) (w : World) (h : Lib.IsBuilder 155 5 B b bs w) :
    Calls Tryz.prog 138 #[.pointer (some ⟨b, 0, none⟩)] w fun e w' => e = .returned (.tuple #[]) ∧ Lib.BuilderAt 155 5 B b (.pointer (some ⟨b, 0, none⟩)) bs w' ∧ Below B w w' := by
  rcases h with h | h
  · refine (copyCheck_fresh b w h.cell0 h.shape h.frozen0).mono ?_
    rintro e w' ⟨rfl, rfl⟩
    exact ⟨rfl, h.used _, (Below.refl B w).setCell (p := ⟨b, 0, none⟩) h.1 _⟩
  · refine (copyCheck_used b w h.cell0).mono ?_
    rintro e w' ⟨rfl, rfl⟩
    exact ⟨rfl, h, Below.refl B _⟩
set_option maxHeartbeats 1000000 in
theorem writeString_any (B b : Nat) (bs : List Value) (s : ByteArray) (w : World) (h : Lib.IsBuilder 155 5 B b bs w) (hlen : bs.length + s.size ≤ 140737488355328) (hBw : B ≤ w.heap.size) :
    Calls Tryz.prog 92 #[.pointer (some ⟨b, 0, none⟩), .string s] w fun e w' => e = .returned (.tuple #[.int .i64 s.size, .nilIface]) ∧ Lib.BuilderAt 155 5 B b (.pointer (some ⟨b, 0, none⟩)) (bs ++ Lib.strCells s) w' ∧ Below B w w' := by
  obtain ⟨i0, hi, hz0, hz1, hz2⟩ := info_parts infoByte
  go_enter Tryz.func92, Tryz.ntmps92
  go_wp2_with (go_at_call 138; refine (copyCheck_any B b bs _ h).mono ?_)
  rintro e w1 ⟨rfl, ⟨hB, v, hbk, hown, hne⟩, hb1⟩
  have hsz := hb1.size
  have c0 : w1.cell? ⟨b, 0, none⟩ = some (.pointer (some ⟨b, 0, none⟩)) := by rw [Lib.cell_of_heap hbk]; rfl
  have c1 : w1.cell? ⟨b, 1, none⟩ = some v := by rw [Lib.cell_of_heap hbk]; rfl
  go_wp2_with (at_builtin; refine Lib.wpList_append_own_string _ rfl _ _ 130 9 rfl B 5 i0 Tryz.underlying130 Tryz.underlying9 hi hz0 hz1 hz2 _ _ _ rfl hown s rfl ?c3 ?c4 ?c5 ?_)
  case c3 => unfold maxLen; omega
  case c4 => omega
  case c5 => omega
  intro v' w2 hown' hgrow _
  have hlt : b < w1.heap.size := by
    rcases Nat.lt_or_ge b w1.heap.size with h' | h'
    · exact h'
    · simp [Array.getElem?_eq_none h'] at hbk
  have hb2 : w2.heap[b]? = some (.cells #[.pointer (some ⟨b, 0, none⟩), v] 155 (0, 0)) := by
    rw [hgrow.block b hlt (fun e => hne e.symm)]
    exact hbk
  have d0 : w2.cell? ⟨b, 0, none⟩ = some (.pointer (some ⟨b, 0, none⟩)) := by rw [Lib.cell_of_heap hb2]; rfl
  have d1 : w2.cell? ⟨b, 1, none⟩ = some v := by rw [Lib.cell_of_heap hb2]; rfl
  have g1 : w2.frozen? ⟨b, 1, none⟩ = false := Lib.frozen_of_heap hb2 1
  obtain ⟨ao, m, cap, rfl⟩ : ∃ ao m cap, v' = .slice ao m cap := by
    rcases hown'.2 with ⟨hv, _⟩ | ⟨g, cap, cur, hv, _⟩
    · exact ⟨_, _, _, hv⟩
    · exact ⟨_, _, _, hv⟩
  go_wp2
  go_ret2
  refine ⟨rfl, ?_, ?_⟩
  · exact Lib.BuilderAt.put (T := 155) (e := 5) hB hb2 (bs' := bs ++ Lib.strCells s) (by simpa [Lib.strCells_length] using hown') (by decide)
  · exact (hb1.grown hgrow (by omega) (fun k hk => (hown.lt k hk).1)).setCell (p := ⟨b, 1, none⟩) hB _
end Go.Proofs.YtdgcdekgleegbaaGreat
