/- Texts of one seat, merged. -/
import Derived.Test.YtdgcdekgleegbaaGreatS11
import Derived.Test.YtdgcdekgleegbaaGreatS05
import Derived.Test.YtdgcdekgleegbaaGreatS09
import Derived.Test.YtdgcdekgleegbaaGreatS08
set_option maxRecDepth 100000
set_option maxHeartbeats 4000000
set_option linter.unusedVariables false
/- The contract of a leaf's Cut. -/
namespace Go.Proofs.YtdgcdekgleegbaaGreat
open Go.RowKit
open Sl (Cl Kd Nd Rn)
theorem step3b {w w1 w2 : World} {B : Nat} {p0 p1 p2 : Addr} {x0 x1 x2 : Value} (hB : B ≤ w.heap.size) (H : w1.cell? p0 = some x0 ∧ w1.cell? p1 = some x1 ∧ w1.cell? p2 = some x2 ∧ Below B w w1) (hb : Below w1.heap.size w1 w2) : w2.cell? p0 = some x0 ∧ w2.cell? p1 = some x1 ∧ w2.cell? p2 = some x2 ∧ Below B w w2 := by
  obtain ⟨h0, h1, h2, hq⟩ := H
  exact ⟨(hb.cell (p := p0) (World.block_lt_of_cell? _ _ h0)).trans h0, (hb.cell (p := p1) (World.block_lt_of_cell? _ _ h1)).trans h1, (hb.cell (p := p2) (World.block_lt_of_cell? _ _ h2)).trans h2, hq.trans (hb.mono (Nat.le_trans hB hq.size))⟩
theorem last3b {w w1 : World} {B : Nat} {p0 p1 p2 : Addr} {x0 x1 x2 : Value} (H : w1.cell? p0 = some x0 ∧ w1.cell? p1 = some x1 ∧ w1.cell? p2 = some x2 ∧ Below B w w1) : Below B w w1 := H.2.2.2
def zcl : Array Value := #[.string ⟨#[]⟩, .string ⟨#[]⟩, .int .u32 0, .int .u32 0]
theorem Kp.four {B : Nat} {w0 w : World} {g : Nat} {x0 x1 x2 x3 : Value} (h : Kp B w0 (row1 g #[x0, x1, x2, x3]) w) : (w.cell? ⟨g, 0, none⟩ = some x0 ∧ w.cell? ⟨g, 1, none⟩ = some x1 ∧ w.cell? ⟨g, 2, none⟩ = some x2 ∧ w.cell? ⟨g, 3, none⟩ = some x3) ∧ (w.frozen? ⟨g, 0, none⟩ = false ∧ w.frozen? ⟨g, 1, none⟩ = false ∧ w.frozen? ⟨g, 2, none⟩ = false ∧ w.frozen? ⟨g, 3, none⟩ = false) := by
  have hm : ∀ i, i < 4 → ((⟨g, i, none⟩ : Addr), (#[x0, x1, x2, x3] : Array Value)[i]!) ∈ row1 g #[x0, x1, x2, x3] := fun i hi => List.mem_map.2 ⟨i, List.mem_range.2 hi, rfl⟩
  exact ⟨⟨h.cell _ (hm 0 (by decide)), h.cell _ (hm 1 (by decide)), h.cell _ (hm 2 (by decide)), h.cell _ (hm 3 (by decide))⟩, h.froz _ (hm 0 (by decide)), h.froz _ (hm 1 (by decide)), h.froz _ (hm 2 (by decide)), h.froz _ (hm 3 (by decide))⟩
theorem ownsRow_set_ne {w : World} {B : Nat} {e : TypeId} {sz : Nat} {v : Value} {n : Nat} {xs : List Value} (h : w.ownsRow B e sz v n xs) {a : Addr} (ha : v.ownBlock ≠ some a.block) (u : Value) : (w.setCell a u).ownsRow B e sz v n xs := by
  obtain ⟨h0, h1⟩ := h
  refine ⟨h0, ?_⟩
  rcases h1 with h1 | ⟨g, cap, cur, hv, hB, hg, h2, h3, h4, h5⟩
  · exact .inl h1
  · refine .inr ⟨g, cap, cur, hv, hB, ?_, h2, h3, h4, h5⟩
    rw [Below.heap_setCell w a u g (fun hh => ha (by rw [hv, hh]; rfl))]; exact hg
theorem set7_row {w1 : World} {B g1 g2 : Nat} {v : Value} {l : List Cl} {x0 x1 x2 x3 x4 x5 x6 : Value} (h : RowC w1 B v l) (h1 : g1 < B) (h2 : g2 < B) : RowC (((((((w1.setCell ⟨g1, 0, none⟩ x0).setCell ⟨g1, 1, none⟩ x1).setCell ⟨g1, 2, none⟩ x2).setCell ⟨g2, 0, none⟩ x3).setCell ⟨g2, 1, none⟩ x4).setCell ⟨g2, 2, none⟩ x5).setCell ⟨g2, 3, none⟩ x6) B v l :=
  ((((((h.set h1 _).set h1 _).set h1 _).set h2 _).set h2 _).set h2 _).set h2 _
theorem set7_below {w w1 : World} {B g1 g2 : Nat} {x0 x1 x2 x3 x4 x5 x6 : Value} (h : Below B w w1) (h1 : B ≤ g1) (h2 : B ≤ g2) : Below B w (((((((w1.setCell ⟨g1, 0, none⟩ x0).setCell ⟨g1, 1, none⟩ x1).setCell ⟨g1, 2, none⟩ x2).setCell ⟨g2, 0, none⟩ x3).setCell ⟨g2, 1, none⟩ x4).setCell ⟨g2, 2, none⟩ x5).setCell ⟨g2, 3, none⟩ x6) :=
  ((((below_set3 h h1).setCell (p := ⟨g2, 0, none⟩) h2 _).setCell (p := ⟨g2, 1, none⟩) h2 _).setCell (p := ⟨g2, 2, none⟩) h2 _).setCell (p := ⟨g2, 3, none⟩) h2 _
theorem Kp.stepB {B B' : Nat} {w0 w w' : World} {L : List (Addr × Value)} (h : Kp B w0 L w) (hb : Below B' w w') (hL : ∀ p ∈ L, p.1.block < B') (hB : B ≤ B') : Kp B w0 L w' :=
  ⟨fun p hp => (hb.cell (p := p.1) (hL p hp)).trans (h.cell p hp), fun p hp => (hb.frozen (p := p.1) (hL p hp)).trans (h.froz p hp), h.below.trans (hb.mono hB)⟩
theorem row1_block {g : Nat} {A : Array Value} {p : Addr × Value} (h : p ∈ row1 g A) : p.1.block = g := by
  obtain ⟨i, _, rfl⟩ := List.mem_map.1 h
  rfl
/-- Two boxes that are written, at one time or another, and what else lies there. -/
inductive CutNd (l : List Cl) (k : List UInt8) (w : World) (e : Ending) (w' : World) : Prop
  | mk (vc : Value) (x : Cl) (he : e = .returned (.tuple #[ndV true vc (.slice none 0 0), aggC x, .bool (Sl.there Sl.shC l k)])) (hx : Sl.there Sl.shC l k = true → l[Sl.place Sl.shC l k]? = some x) (hv : SlC w' vc (Sl.cutL Sl.shC l k)) (hq : Cap vc) (hb : Below w.heap.size w w')
set_option maxHeartbeats 8000000 in
theorem cut10_any (v : Value) (n : Nd) (key : List UInt8) (w : World) (hv : NdV w v n) (hlf : n.leaf = true) (hl : n.cs.length ≤ 90000) (hr : Sl.rises Sl.shC n.cs = true) :
    Calls Tryz.prog 48 #[v, .string (str key)] w (CutNd n.cs key w) := by
  have HOW := Lib.hid (fun W (hW : Below w.heap.size w W) => ownC_any v n W (hv.below hW) hlf (by omega))
  have HLV := Lib.hid (fun W => leaves_any W)
  have HFD := Lib.hid (fun W v (hW : SlC W v n.cs) => findC_any v n.cs (by omega) key W hW hr)
  obtain ⟨vc, vk, rfl, hc, hcc, hk, hkk⟩ := hv
  rw [hlf] at HOW ⊢
  unfold ndV at HOW ⊢
  unfold shpC at HLV HFD
  obtain ⟨a, m, c, _, _, _⟩ := hcc
  obtain ⟨a', m', c', _, _, _⟩ := hkk
  have HLE := Lib.hid hl
  have HDEL := Lib.hid (fun B v W (hi : Sl.place Sl.shC n.cs key < n.cs.length) hv => delC_any B (Sl.place Sl.shC n.cs key) v n.cs W hi (by omega) hv)
  have hth := Sl.there_at Sl.shC n.cs key
  clear hc hk hlf hl hr
  have HCUT : Hid (Sl.cutL Sl.shC n.cs key = if Sl.there Sl.shC n.cs key then n.cs.take (Sl.place Sl.shC n.cs key) ++ n.cs.drop (Sl.place Sl.shC n.cs key + 1) else n.cs) := rfl
  have HTH := Lib.hid hth
  clear hth
  have HPOST : Hid (∀ vc x e w', e = .returned (.tuple #[.agg #[.bool true, vc, .slice none 0 0], .agg #[.string (str x.key), .string (str x.val), .int .u32 x.chain, .int .u32 x.long], .bool (Sl.there Sl.shC n.cs key)]) → (Sl.there Sl.shC n.cs key = true → n.cs[Sl.place Sl.shC n.cs key]? = some x) → SlC w' vc (Sl.cutL Sl.shC n.cs key) → Cap vc → Below w.heap.size w w' → CutNd n.cs key w e w') := fun vc x e w' h1 h2 h3 h4 h5 => ⟨vc, x, h1, h2, h3, h4, h5⟩
  generalize CutNd n.cs key w = PO at HPOST ⊢
  generalize Sl.cutL Sl.shC n.cs key = LC at *
  generalize n.cs = l at *
  generalize Sl.place Sl.shC l key = p at *
  generalize Sl.there Sl.shC l key = th at *
  have HST : Hid (∀ x1 x2, Kp w.heap.size w (row1 (w.heap.size + 1) zn ++ row1 (w.heap.size + 1 + 1) zcl) (((w.alloc (.cells #[.bool true, x1, x2] 71)).alloc (.cells #[.bool false, .slice none 0 0, .slice none 0 0] 71)).alloc (.cells #[.string ⟨#[]⟩, .string ⟨#[]⟩, .int .u32 0, .int .u32 0] 32)) ∧ (((w.alloc (.cells #[.bool true, x1, x2] 71)).alloc (.cells #[.bool false, .slice none 0 0, .slice none 0 0] 71)).alloc (.cells #[.string ⟨#[]⟩, .string ⟨#[]⟩, .int .u32 0, .int .u32 0] 32)).heap.size = w.heap.size + 1 + 1 + 1) := fun x1 x2 => by
    have hS : ((w.alloc (.cells #[.bool true, x1, x2] 71)).alloc (.cells #[.bool false, .slice none 0 0, .slice none 0 0] 71)).heap.size = w.heap.size + 1 + 1 := by simp
    have h0 : Kp w.heap.size w (row1 (w.heap.size + 1) zn) ((w.alloc (.cells #[.bool true, x1, x2] 71)).alloc (.cells #[.bool false, .slice none 0 0, .slice none 0 0] 71)) := ⟨(startK w _ _ _ _).cell, (startK w _ _ _ _).froz, boxB w _ _⟩
    have h1 := h0.step (Nat.le_refl _) ((Below.refl _ _).alloc (Nat.le_refl _) (.cells #[.string ⟨#[]⟩, .string ⟨#[]⟩, .int .u32 0, .int .u32 0] 32))
    have h2 := Kp.laid h0.below h0.below.size #[.string ⟨#[]⟩, .string ⟨#[]⟩, .int .u32 0, .int .u32 0] 32
    rw [hS] at h2
    exact ⟨h1.both h2, by simp⟩
  go_enter Tryz.func48, Tryz.ntmps48
  go_upto_region 2 with (go_at_call 78; (refine (HOW.out _ (HST.out _ _).1.below).mono ?_); rintro e w5 ⟨v5, rfl, hr5, hb5⟩; have HK5 := Lib.hid ((HST.out _ _).1.step (Nat.le_refl _) hb5); have HS3 := Lib.hid (HST.out (.slice a m c) (.slice a' m' c')).2; obtain ⟨a5, n5, c5, ha5, hc5, hn5⟩ := hr5.cap; have HCP := Lib.hid (Cap.mk a5 n5 c5 ha5 hc5 hn5); have HR5 := Lib.hid (hr5.base (Nat.le_of_eq (HST.out (.slice a m c) (.slice a' m' c')).2.symm)); clear hr5 hb5; unfold ndV)
  have HK6 := Lib.hid (HK5.out.more (Nat.le_refl _) #[.bool true, .slice a5 n5 c5, .slice none 0 0] 71)
  have HR6 := Lib.hid (HR5.out.below ((Below.refl w5.heap.size w5).alloc (Nat.le_refl _) (.cells #[.bool true, .slice a5 n5 c5, .slice none 0 0] 71)))
  have HQ6 : Hid (w.heap.size + 1 + 1 + 1 ≤ w5.heap.size) := by
    have h1 := HK5.out.right
    have h2 := World.block_lt_of_cell? _ _ h1.four.1.1
    exact h2
  clear HK5 HR5 HOW HST
  generalize (w5.alloc (.cells #[.bool true, .slice a5 n5 c5, .slice none 0 0] 71)) = W6 at HK6 HR6 ⊢
  generalize w5.heap.size = q at HK6 HQ6 ⊢
  have hF : Hid (W6.drew.cell? ⟨q, 0, none⟩ = some (.bool true) ∧ W6.drew.cell? ⟨q, 1, none⟩ = some (.slice a5 n5 c5) ∧ W6.drew.cell? ⟨q, 2, none⟩ = some (.slice none 0 0) ∧ Below W6.heap.size W6 W6.drew) := by
    obtain ⟨⟨c0, c1, c2⟩, _⟩ := HK6.out.right.three
    exact ⟨c0, c1, c2, (Below.refl _ _).drew⟩
  cases th with
  | false =>
    have HLC : Hid (LC = l) := HCUT.out
    go_wp2_with fail
    go_region_held3 (fun w' => w'.cell? ⟨q, 0, none⟩ = some (.bool true) ∧ w'.cell? ⟨q, 1, none⟩ = some (.slice a5 n5 c5) ∧ w'.cell? ⟨q, 2, none⟩ = some (.slice none 0 0) ∧ Below W6.heap.size W6 w')
      ((first | assumption | exact step3b (Nat.le_refl _) ‹_› hb | exact hF.out))
      (first
      | (go_at_call 55; (with_reducible refine (HLV.out _).mono ?_); rintro e w7 ⟨rfl, hb⟩)
      | (go_at_call 79; (refine (HFD.out _ _ ((HR6.out.below (last3b (by assumption))).sl)).mono ?_); rintro e w8 ⟨rfl, hb⟩))
    rename_i hS
    have HS := Lib.hid hS
    clear hS hF
    have HK8 := Lib.hid (HK6.out.step (Nat.le_refl _) (last3b HS.out))
    have HR8 := Lib.hid (HR6.out.below (last3b HS.out))
    obtain ⟨⟨c0, c1, c2⟩, _⟩ := HK8.out.right.three
    obtain ⟨⟨z0, z1, z2⟩, f0, f1, f2⟩ := HK8.out.left.left.zn
    obtain ⟨⟨y0, y1, y2, y3⟩, g0, g1, g2, g3⟩ := HK8.out.left.right.four
    go_wp2
    refine bodyPost_ret_by (v := .tuple #[.agg #[.bool true, .slice a5 n5 c5, .slice none 0 0], .agg #[.string ⟨#[]⟩, .string ⟨#[]⟩, .int .u32 0, .int .u32 0], .bool false]) ?_ rfl ?_
    · simp [results, Tryz.results48, go_sem, z0, z1, z2, y0, y1, y2, y3]
    · exact HPOST.out (.slice a5 n5 c5) ⟨[], [], 0, 0⟩ _ _ rfl (fun h => by cases h) (by rw [HLC.out]; exact (set7_row HR8.out (by omega) (by omega)).sl) HCP.out (set7_below HK8.out.below (by omega) (by omega))
  | true =>
    have HLC : Hid (LC = l.take p ++ l.drop (p + 1)) := HCUT.out
    obtain ⟨y, hy, _, hpl⟩ := HTH.out rfl
    have HY := Lib.hid hy
    have HLP := Lib.hid hpl
    clear hy hpl HTH
    go_wp2_with fail
    go_region_held3 (fun w' => w'.cell? ⟨q, 0, none⟩ = some (.bool true) ∧ w'.cell? ⟨q, 1, none⟩ = some (.slice a5 n5 c5) ∧ w'.cell? ⟨q, 2, none⟩ = some (.slice none 0 0) ∧ Below W6.heap.size W6 w')
      ((first | assumption | exact step3b (Nat.le_refl _) ‹_› hb | exact hF.out))
      (first
      | (go_at_call 55; (with_reducible refine (HLV.out _).mono ?_); rintro e w7 ⟨rfl, hb⟩)
      | (go_at_call 79; (refine (HFD.out _ _ ((HR6.out.below (last3b (by assumption))).sl)).mono ?_); rintro e w8 ⟨rfl, hb⟩))
    rename_i hS
    have HS := Lib.hid hS
    clear hS hF
    have HK8 := Lib.hid (HK6.out.step (Nat.le_refl _) (last3b HS.out))
    have HR8 := Lib.hid (HR6.out.below (last3b HS.out))
    clear HS HK6 HR6
    obtain ⟨g, cap, hav, hg, hnc, hcm, hcell, hfr⟩ := row_someC HR8.out (by have := HLP.out; omega)
    simp only [Value.slice.injEq] at hav
    obtain ⟨rfl, rfl, rfl⟩ := hav
    have ck0 := hcell (p * 4 + 0) _ (flat_at cellsC 4 cellsC_len l p 0 y HY.out (by decide))
    have ck1 := hcell (p * 4 + 1) _ (flat_at cellsC 4 cellsC_len l p 1 y HY.out (by decide))
    have ck2 := hcell (p * 4 + 2) _ (flat_at cellsC 4 cellsC_len l p 2 y HY.out (by decide))
    have ck3 := hcell (p * 4 + 3) _ (flat_at cellsC 4 cellsC_len l p 3 y HY.out (by decide))
    rw [Nat.add_zero] at ck0
    obtain ⟨⟨c0, c1, c2⟩, d0, d1, d2⟩ := HK8.out.right.three
    have HGQ : Hid (g ≠ q) := fun h => by
      subst h
      obtain ⟨y0, hy0⟩ : ∃ y0, l[0]? = some y0 := ⟨_, List.getElem?_eq_getElem (by have := HLP.out; omega)⟩
      have := hcell (0 * 4 + 0) _ (flat_at cellsC 4 cellsC_len l 0 0 y0 hy0 (by decide))
      rw [c0] at this
      injection this with this
      cases this
    have HGLT : Hid (g < w8.heap.size) := World.block_lt_of_cell? _ _ ck0
    have HQLT : Hid (q < w8.heap.size) := World.block_lt_of_cell? _ _ c0
    have hpl := HLP.out
    have hpi : (p : Int) < (l.length : Int) := by omega
    have hw1 : IntKind.i64.wrap ((p : Int) + 1) = (p : Int) + 1 := IntWalk.i64_in _ (by have := HLE.out; omega)
    have c1a := fun o => (((Below.refl w8.heap.size w8).alloc (Nat.le_refl _) o).cell (p := ⟨q, 1, none⟩) HQLT.out).trans c1
    have HGB := Lib.hid hg
    clear hcell hg hnc hcm hfr
    go_upto_region 7 with (go_at_call 80; (refine (HDEL.out (w.heap.size + 1 + 1 + 1) _ _ HLP.out (HR8.out.below ((Below.refl w8.heap.size w8).alloc (Nat.le_refl _) _))).mono ?_); rintro e w10 ⟨v10, rfl, hr10, hb10, hk10, hz10, ho10⟩; obtain ⟨a6, n6, c6, ha6, hc6, hn6⟩ := hr10.cap; have HC6 := Lib.hid (Cap.mk a6 n6 c6 ha6 hc6 hn6); have e0 : w10.cell? ⟨q, 0, none⟩ = some (.bool true) := (World.cell?_of_block (hk10 q (fun h => HGQ.out (by injection h)))).trans ((((Below.refl w8.heap.size w8).alloc (Nat.le_refl _) _).cell (p := ⟨q, 0, none⟩) HQLT.out).trans c0); have e1 : w10.cell? ⟨q, 1, none⟩ = some (.slice (some ⟨g, 0, none⟩) l.length c5) := (World.cell?_of_block (hk10 q (fun h => HGQ.out (by injection h)))).trans (c1a _); have e2 : w10.cell? ⟨q, 2, none⟩ = some (.slice none 0 0) := (World.cell?_of_block (hk10 q (fun h => HGQ.out (by injection h)))).trans ((((Below.refl w8.heap.size w8).alloc (Nat.le_refl _) _).cell (p := ⟨q, 2, none⟩) HQLT.out).trans c2); have e3 : w10.frozen? ⟨q, 1, none⟩ = false := (World.frozen?_of_block (hk10 q (fun h => HGQ.out (by injection h)))).trans ((((Below.refl w8.heap.size w8).alloc (Nat.le_refl _) _).frozen (p := ⟨q, 1, none⟩) HQLT.out).trans d1))
    have hbl : ∀ p ∈ row1 (w.heap.size + 1) zn ++ row1 (w.heap.size + 1 + 1) zcl, p.1.block < w.heap.size + 1 + 1 + 1 := fun p hp => by
      rcases List.mem_append.1 hp with h | h
      · rw [row1_block h]; omega
      · rw [row1_block h]; omega
    have HK10 := Lib.hid (((HK8.out.left.step (Nat.le_refl _) ((Below.refl w8.heap.size w8).alloc (Nat.le_refl _) (.cells #[.string (str y.key), .string (str y.val), .int .u32 y.chain, .int .u32 y.long] 32))).stepB hb10 hbl (by omega)).set (p := ⟨q, 1, none⟩) (fun p hp h => by have := hbl p hp; rw [h] at this; have h2 := HQ6.out; exact absurd this (by show ¬ q < _; omega)) (by have h2 := HQ6.out; show _ ≤ q; omega) (.slice a6 n6 c6))
    have ht : ∀ i v, (#[.string (str y.key), .string (str y.val), .int .u32 y.chain, .int .u32 y.long] : Array Value)[i]? = some v → (w10.setCell ⟨q, 1, none⟩ (.slice a6 n6 c6)).cell? ⟨w8.heap.size, i, none⟩ = some v := fun i v hv => by
      have hne : (⟨q, 1, none⟩ : Addr) ≠ ⟨w8.heap.size, i, none⟩ := fun h => by injection h with h _; have := HQLT.out; omega
      rw [World.cell?_setCell_other _ _ _ _ hne, World.cell?_of_block (hk10 w8.heap.size (fun h => by injection h with h; have := HGLT.out; have h3 : g = w8.heap.size := h; omega)), World.cell?_alloc_new]
      exact hv
    have t0 := ht 0 _ rfl
    have t1 := ht 1 _ rfl
    have t2 := ht 2 _ rfl
    have t3 := ht 3 _ rfl
    have f0 : (w10.setCell ⟨q, 1, none⟩ (.slice a6 n6 c6)).cell? ⟨q, 0, none⟩ = some (.bool true) := (World.cell?_setCell_other _ _ _ _ (by simp)).trans e0
    have f1 : (w10.setCell ⟨q, 1, none⟩ (.slice a6 n6 c6)).cell? ⟨q, 1, none⟩ = some (.slice a6 n6 c6) := World.cell?_setCell_same' _ _ _ (by rw [e1]; rfl)
    have f2 : (w10.setCell ⟨q, 1, none⟩ (.slice a6 n6 c6)).cell? ⟨q, 2, none⟩ = some (.slice none 0 0) := (World.cell?_setCell_other _ _ _ _ (by simp)).trans e2
    have HR11 : Hid (RowC (w10.setCell ⟨q, 1, none⟩ (.slice a6 n6 c6)) (w.heap.size + 1 + 1 + 1) (.slice a6 n6 c6) (l.take p ++ l.drop (p + 1))) := ownsRow_set_ne hr10 (by rw [ho10]; exact fun h => HGQ.out (by injection h)) _
    obtain ⟨⟨z0, z1, z2⟩, g0, g1, g2⟩ := HK10.out.left.zn
    obtain ⟨⟨y0, y1, y2, y3⟩, g3, g4, g5, g6⟩ := HK10.out.right.four
    clear e0 e1 e2 e3 c0 c1 c2 d0 d1 d2 ck0 ck1 ck2 ck3 c1a ht hk10 hb10 hz10 ho10 hr10 hbl HK8 HR8
    have HQ7 := HQ6.out
    have HT8 := Lib.hid (show w.heap.size + 1 + 1 + 1 ≤ w8.heap.size by have := HQLT.out; omega)
    generalize (w10.setCell ⟨q, 1, none⟩ (.slice a6 n6 c6)) = W11 at *
    generalize w8.heap.size = t at *
    have ne1 : ¬ (w.heap.size + 1 = t) := by have := HT8.out; omega
    have ne2 : ¬ (w.heap.size + 1 + 1 = t) := by have := HT8.out; omega
    have ne3 : ¬ (w.heap.size + 1 = q) := by omega
    have ne4 : ¬ (w.heap.size + 1 + 1 = q) := by omega
    have ne5 : ¬ (t = w.heap.size + 1) := by have := HT8.out; omega
    have ne6 : ¬ (t = w.heap.size + 1 + 1) := by have := HT8.out; omega
    have ne7 : ¬ (q = w.heap.size + 1) := by omega
    have ne8 : ¬ (q = w.heap.size + 1 + 1) := by omega
    go_region
    all_goals
      go_wp2
      refine bodyPost_ret_by (v := .tuple #[.agg #[.bool true, .slice a6 n6 c6, .slice none 0 0], .agg #[.string (str y.key), .string (str y.val), .int .u32 y.chain, .int .u32 y.long], .bool true]) ?_ rfl ?_
      · simp [results, Tryz.results48, go_sem, z0, z1, z2, y0, y1, y2, y3]
      · refine HPOST.out (.slice a6 n6 c6) y _ _ rfl (fun _ => HY.out) ?_ HC6.out ?_
        · rw [HLC.out]
          exact (RowC.below (set7_row HR11.out (by omega) (by omega)) (Below.refl _ _).drew).sl
        · exact (set7_below HK10.out.below (by omega) (by omega)).drew
end Go.Proofs.YtdgcdekgleegbaaGreat
/- A box of another type is no row: what it holds may be written. -/
namespace Go.Proofs.YtdgcdekgleegbaaGreat
open Go.RowKit Go.Maps
open Sl (Cl Kd Nd Rn)
def BoxT (w : World) (x : Nat) (T : TypeId) : Prop := ∃ A fr, w.heap[x]? = some (.cells A T fr)
theorem BoxT.lt {w : World} {x : Nat} {T : TypeId} (h : BoxT w x T) : x < w.heap.size := by
  obtain ⟨A, fr, h⟩ := h
  exact (Array.getElem?_eq_some_iff.1 h).1
theorem BoxT.kept {w w' : World} {x : Nat} {T : TypeId} (h : BoxT w x T) (hk : w'.heap[x]? = w.heap[x]?) : BoxT w' x T := by
  obtain ⟨A, fr, h⟩ := h
  exact ⟨A, fr, hk.trans h⟩
theorem BoxT.below {w w' : World} {x : Nat} {T : TypeId} (h : BoxT w x T) (hb : Below w.heap.size w w') : BoxT w' x T := h.kept (hb.block x h.lt)
theorem BoxT.two {w w' : World} {x p b : Nat} {T : TypeId} (h : BoxT w x T) (ht : Two p b w w') (hp : x ≠ p) (hb : x ≠ b) : BoxT w' x T := h.kept (ht.block x h.lt hp hb)
theorem BoxT.new (w : World) (A : Array Value) (T : TypeId) : BoxT (w.alloc (.cells A T)) w.heap.size T := ⟨A, (0, 0), heap_alloc_new _ _⟩
theorem BoxT.alloc {w : World} {x : Nat} {T : TypeId} (h : BoxT w x T) (o : Obj) : BoxT (w.alloc o) x T := h.below ((Below.refl _ _).alloc (Nat.le_refl _) o)
theorem BoxT.set {w : World} {x : Nat} {T : TypeId} (h : BoxT w x T) (a : Addr) (u : Value) : BoxT (w.setCell a u) x T := by
  obtain ⟨A, fr, h⟩ := h
  by_cases hx : a.block = x
  · subst hx
    refine ⟨(if a.spot.isSome then A else A.setIfInBounds a.off u), fr, ?_⟩
    simp [World.setCell, Array.getElem?_modify, h]
  · refine ⟨A, fr, ?_⟩
    rw [RowKit.Below.heap_setCell w a u x (fun e => hx e.symm)]
    exact h
theorem ownsRow_box {w : World} {B : Nat} {e : TypeId} {s : Nat} {v : Value} {n : Nat} {xs : List Value} (h : w.ownsRow B e s v n xs) {x : Nat} {T : TypeId} (hx : BoxT w x T) (hT : T ≠ e) (i : Nat) (u : Value) : (w.setCell ⟨x, i, none⟩ u).ownsRow B e s v n xs := by
  refine ownsRow_set_ne h (fun hv => ?_) u
  obtain ⟨A, fr, hA⟩ := hx
  rcases h.2 with ⟨rfl, _⟩ | ⟨g, cap, cur, rfl, _, hg, _⟩
  · cases hv
  · have : g = x := Option.some.inj hv
    subst this
    rw [hA] at hg
    injection hg with hg
    injection hg with _ h2 _
    exact hT h2
theorem NdO.box {w : World} {B : Nat} {v : Value} {n : Nd} (h : NdO w B v n) {x : Nat} {T : TypeId} (hx : BoxT w x T) (h1 : T ≠ 32) (h2 : T ≠ 135) (i : Nat) (u : Value) : NdO (w.setCell ⟨x, i, none⟩ u) B v n := by
  obtain ⟨vc, vk, hv, hc, hk⟩ := h
  exact ⟨vc, vk, hv, ownsRow_box hc hx h1 i u, ownsRow_box hk hx h2 i u⟩
theorem Mem.box {w : World} {p b B n made frozen : Nat} {F : Nat → Option Nd} (h : Mem w p b B n made frozen F) {x : Nat} {T : TypeId} (hx : BoxT w x T) (h1 : T ≠ 32) (h2 : T ≠ 135) (hp : x ≠ p) (hb : x ≠ b) (i : Nat) (u : Value) : Mem (w.setCell ⟨x, i, none⟩ u) p b B n made frozen F := by
  obtain ⟨f, hm, k1, k2⟩ := h.map
  have o : ∀ j, (w.setCell ⟨x, i, none⟩ u).cell? ⟨p, j, none⟩ = w.cell? ⟨p, j, none⟩ := fun j => World.cell?_setCell_other _ _ _ _ (fun e => hp (congrArg Addr.block e))
  refine ⟨(o 0).trans h.c0, (o 1).trans h.c1, (o 2).trans h.c2, (World.frozen?_setCell _ _ _ _).trans h.f0, (World.frozen?_setCell _ _ _ _).trans h.f1, (World.frozen?_setCell _ _ _ _).trans h.f2, ⟨f, hm.kept (RowKit.Below.heap_setCell _ _ _ _ (fun e => hb e.symm)), k1, fun k nd hk hF => ?_⟩, h.pB, h.bB, h.ne⟩
  obtain ⟨v, hv, hn⟩ := k2 k nd hk hF
  exact ⟨v, hv, hn.box hx h1 h2 i u⟩
/-- Of an older world all blocks stay but some. -/
structure Off (S : Nat → Prop) (w w' : World) : Prop where
  os : w'.os = w.os
  tape : w'.tape = w.tape
  output : w'.output = w.output
  size : w.heap.size ≤ w'.heap.size
  block : ∀ k, k < w.heap.size → ¬ S k → w'.heap[k]? = w.heap[k]?
theorem Off.refl (S : Nat → Prop) (w : World) : Off S w w := ⟨rfl, rfl, rfl, Nat.le_refl _, fun _ _ _ => rfl⟩
theorem Off.trans {S : Nat → Prop} {w w' w'' : World} (h : Off S w w') (k : Off S w' w'') : Off S w w'' :=
  ⟨k.os.trans h.os, k.tape.trans h.tape, k.output.trans h.output, Nat.le_trans h.size k.size, fun q hq hs => (k.block q (Nat.lt_of_lt_of_le hq h.size) hs).trans (h.block q hq hs)⟩
theorem Off.of {S : Nat → Prop} {w w' : World} (h : Below w.heap.size w w') : Off S w w' := ⟨h.os, h.tape, h.output, h.size, fun q hq _ => h.block q hq⟩
theorem Off.two {S : Nat → Prop} {p b : Nat} {w w' : World} (h : Two p b w w') (hp : S p) (hb : S b) : Off S w w' :=
  ⟨h.os, h.tape, h.output, h.size, fun q hq hs => h.block q hq (fun e => hs (e ▸ hp)) (fun e => hs (e ▸ hb))⟩
/-- A block that is new, or is among those that may turn, is written. -/
theorem Off.set {S : Nat → Prop} {w w' : World} (h : Off S w w') {x : Nat} (hx : S x ∨ w.heap.size ≤ x) (i : Nat) (u : Value) : Off S w (w'.setCell ⟨x, i, none⟩ u) :=
  ⟨(((Below.refl 0 w').setCell (p := ⟨x, i, none⟩) (Nat.zero_le _) u).os).trans h.os, h.tape, (((Below.refl 0 w').setCell (p := ⟨x, i, none⟩) (Nat.zero_le _) u).output).trans h.output, by simpa using h.size, fun q hq hs => by
    rw [RowKit.Below.heap_setCell w' ⟨x, i, none⟩ u q (fun e => by rcases hx with hx | hx; exact hs (e ▸ hx); exact absurd hq (by have e2 : q = x := e; omega))]
    exact h.block q hq hs⟩
theorem Off.below {S : Nat → Prop} {B : Nat} {w w' : World} (h : Off S w w') (hB : B ≤ w.heap.size) (hs : ∀ k, S k → B ≤ k) : Below B w w' :=
  ⟨h.os, h.tape, h.output, h.size, fun q hq => h.block q (by omega) (fun e => by have := hs q e; omega)⟩
theorem Off.cell {S : Nat → Prop} {q i : Nat} {w w' : World} {x : Value} (h : Off S w w') (hq : ¬ S q) (hx : w.cell? ⟨q, i, none⟩ = some x) : w'.cell? ⟨q, i, none⟩ = some x := by
  have hlt := World.block_lt_of_cell? _ _ hx
  have := h.block q hlt hq
  simp only [World.cell?] at hx ⊢
  rw [this]; exact hx
end Go.Proofs.YtdgcdekgleegbaaGreat
/- Cells that are read, and a box that is written at last. -/
namespace Go.Proofs.YtdgcdekgleegbaaGreat
open Go.RowKit
theorem stepP5 {w w1 : World} {b0 b1 b2 b3 b4 i0 i1 i2 i3 i4 : Nat} {x0 x1 x2 x3 x4 : Value} {g B : Nat} {w2 : World} (hB : B ≤ w.heap.size) (H : w1.cell? ⟨b0, i0, none⟩ = some x0 ∧ w1.cell? ⟨b1, i1, none⟩ = some x1 ∧ w1.cell? ⟨b2, i2, none⟩ = some x2 ∧ w1.cell? ⟨b3, i3, none⟩ = some x3 ∧ w1.cell? ⟨b4, i4, none⟩ = some x4 ∧ w1.cell? ⟨g, 0, none⟩ = some (cv w1 g 0) ∧ w1.cell? ⟨g, 1, none⟩ = some (cv w1 g 1) ∧ w1.cell? ⟨g, 2, none⟩ = some (cv w1 g 2) ∧ w1.frozen? ⟨g, 0, none⟩ = false ∧ w1.frozen? ⟨g, 1, none⟩ = false ∧ w1.frozen? ⟨g, 2, none⟩ = false ∧ Below B w w1) (hb : Below w1.heap.size w1 w2) : w2.cell? ⟨b0, i0, none⟩ = some x0 ∧ w2.cell? ⟨b1, i1, none⟩ = some x1 ∧ w2.cell? ⟨b2, i2, none⟩ = some x2 ∧ w2.cell? ⟨b3, i3, none⟩ = some x3 ∧ w2.cell? ⟨b4, i4, none⟩ = some x4 ∧ w2.cell? ⟨g, 0, none⟩ = some (cv w2 g 0) ∧ w2.cell? ⟨g, 1, none⟩ = some (cv w2 g 1) ∧ w2.cell? ⟨g, 2, none⟩ = some (cv w2 g 2) ∧ w2.frozen? ⟨g, 0, none⟩ = false ∧ w2.frozen? ⟨g, 1, none⟩ = false ∧ w2.frozen? ⟨g, 2, none⟩ = false ∧ Below B w w2 := by
  obtain ⟨k0, k1, k2, k3, k4, h2, h3, h4, h5, h6, h7, hq⟩ := H
  have hlt : g < w1.heap.size := World.block_lt_of_cell? _ _ h2
  exact ⟨(hb.cell (p := ⟨b0, i0, none⟩) (World.block_lt_of_cell? _ _ k0)).trans k0, (hb.cell (p := ⟨b1, i1, none⟩) (World.block_lt_of_cell? _ _ k1)).trans k1, (hb.cell (p := ⟨b2, i2, none⟩) (World.block_lt_of_cell? _ _ k2)).trans k2, (hb.cell (p := ⟨b3, i3, none⟩) (World.block_lt_of_cell? _ _ k3)).trans k3, (hb.cell (p := ⟨b4, i4, none⟩) (World.block_lt_of_cell? _ _ k4)).trans k4, cv_of (by rw [hb.cell (p := ⟨g, 0, none⟩) hlt, h2]; rfl), cv_of (by rw [hb.cell (p := ⟨g, 1, none⟩) hlt, h3]; rfl), cv_of (by rw [hb.cell (p := ⟨g, 2, none⟩) hlt, h4]; rfl), (hb.frozen (p := ⟨g, 0, none⟩) hlt).trans h5, (hb.frozen (p := ⟨g, 1, none⟩) hlt).trans h6, (hb.frozen (p := ⟨g, 2, none⟩) hlt).trans h7, hq.trans (hb.mono (Nat.le_trans hB hq.size))⟩
theorem stepP5s {w w1 : World} {b0 b1 b2 b3 b4 i0 i1 i2 i3 i4 : Nat} {x0 x1 x2 x3 x4 : Value} {g B : Nat} {j : Nat} {y : Value} (H : w1.cell? ⟨b0, i0, none⟩ = some x0 ∧ w1.cell? ⟨b1, i1, none⟩ = some x1 ∧ w1.cell? ⟨b2, i2, none⟩ = some x2 ∧ w1.cell? ⟨b3, i3, none⟩ = some x3 ∧ w1.cell? ⟨b4, i4, none⟩ = some x4 ∧ w1.cell? ⟨g, 0, none⟩ = some (cv w1 g 0) ∧ w1.cell? ⟨g, 1, none⟩ = some (cv w1 g 1) ∧ w1.cell? ⟨g, 2, none⟩ = some (cv w1 g 2) ∧ w1.frozen? ⟨g, 0, none⟩ = false ∧ w1.frozen? ⟨g, 1, none⟩ = false ∧ w1.frozen? ⟨g, 2, none⟩ = false ∧ Below B w w1) (h0_ : g ≠ b0) (h1_ : g ≠ b1) (h2_ : g ≠ b2) (h3_ : g ≠ b3) (h4_ : g ≠ b4) (hg : B ≤ g) : (w1.setCell ⟨g, j, none⟩ y).cell? ⟨b0, i0, none⟩ = some x0 ∧ (w1.setCell ⟨g, j, none⟩ y).cell? ⟨b1, i1, none⟩ = some x1 ∧ (w1.setCell ⟨g, j, none⟩ y).cell? ⟨b2, i2, none⟩ = some x2 ∧ (w1.setCell ⟨g, j, none⟩ y).cell? ⟨b3, i3, none⟩ = some x3 ∧ (w1.setCell ⟨g, j, none⟩ y).cell? ⟨b4, i4, none⟩ = some x4 ∧ (w1.setCell ⟨g, j, none⟩ y).cell? ⟨g, 0, none⟩ = some (cv (w1.setCell ⟨g, j, none⟩ y) g 0) ∧ (w1.setCell ⟨g, j, none⟩ y).cell? ⟨g, 1, none⟩ = some (cv (w1.setCell ⟨g, j, none⟩ y) g 1) ∧ (w1.setCell ⟨g, j, none⟩ y).cell? ⟨g, 2, none⟩ = some (cv (w1.setCell ⟨g, j, none⟩ y) g 2) ∧ (w1.setCell ⟨g, j, none⟩ y).frozen? ⟨g, 0, none⟩ = false ∧ (w1.setCell ⟨g, j, none⟩ y).frozen? ⟨g, 1, none⟩ = false ∧ (w1.setCell ⟨g, j, none⟩ y).frozen? ⟨g, 2, none⟩ = false ∧ Below B w (w1.setCell ⟨g, j, none⟩ y) := by
  obtain ⟨k0, k1, k2, k3, k4, h2, h3, h4, h5, h6, h7, hq⟩ := H
  exact ⟨(World.cell?_setCell_far w1 ⟨g, j, none⟩ ⟨b0, i0, none⟩ y h0_).trans k0, (World.cell?_setCell_far w1 ⟨g, j, none⟩ ⟨b1, i1, none⟩ y h1_).trans k1, (World.cell?_setCell_far w1 ⟨g, j, none⟩ ⟨b2, i2, none⟩ y h2_).trans k2, (World.cell?_setCell_far w1 ⟨g, j, none⟩ ⟨b3, i3, none⟩ y h3_).trans k3, (World.cell?_setCell_far w1 ⟨g, j, none⟩ ⟨b4, i4, none⟩ y h4_).trans k4, cv_of (isSome_set (by rw [h2]; rfl)), cv_of (isSome_set (by rw [h3]; rfl)), cv_of (isSome_set (by rw [h4]; rfl)), (World.frozen?_setCell _ _ _ _).trans h5, (World.frozen?_setCell _ _ _ _).trans h6, (World.frozen?_setCell _ _ _ _).trans h7, hq.setCell hg _⟩
theorem lastP5 {w w1 : World} {b0 b1 b2 b3 b4 i0 i1 i2 i3 i4 : Nat} {x0 x1 x2 x3 x4 : Value} {g B : Nat} (H : w1.cell? ⟨b0, i0, none⟩ = some x0 ∧ w1.cell? ⟨b1, i1, none⟩ = some x1 ∧ w1.cell? ⟨b2, i2, none⟩ = some x2 ∧ w1.cell? ⟨b3, i3, none⟩ = some x3 ∧ w1.cell? ⟨b4, i4, none⟩ = some x4 ∧ w1.cell? ⟨g, 0, none⟩ = some (cv w1 g 0) ∧ w1.cell? ⟨g, 1, none⟩ = some (cv w1 g 1) ∧ w1.cell? ⟨g, 2, none⟩ = some (cv w1 g 2) ∧ w1.frozen? ⟨g, 0, none⟩ = false ∧ w1.frozen? ⟨g, 1, none⟩ = false ∧ w1.frozen? ⟨g, 2, none⟩ = false ∧ Below B w w1) : Below B w w1 := H.2.2.2.2.2.2.2.2.2.2.2
theorem ltP5 {w w1 : World} {b0 b1 b2 b3 b4 i0 i1 i2 i3 i4 : Nat} {x0 x1 x2 x3 x4 : Value} {g B : Nat} (H : w1.cell? ⟨b0, i0, none⟩ = some x0 ∧ w1.cell? ⟨b1, i1, none⟩ = some x1 ∧ w1.cell? ⟨b2, i2, none⟩ = some x2 ∧ w1.cell? ⟨b3, i3, none⟩ = some x3 ∧ w1.cell? ⟨b4, i4, none⟩ = some x4 ∧ w1.cell? ⟨g, 0, none⟩ = some (cv w1 g 0) ∧ w1.cell? ⟨g, 1, none⟩ = some (cv w1 g 1) ∧ w1.cell? ⟨g, 2, none⟩ = some (cv w1 g 2) ∧ w1.frozen? ⟨g, 0, none⟩ = false ∧ w1.frozen? ⟨g, 1, none⟩ = false ∧ w1.frozen? ⟨g, 2, none⟩ = false ∧ Below B w w1) : g < w1.heap.size := World.block_lt_of_cell? _ _ H.2.2.2.2.2.1
theorem z3P5 {w w1 : World} {b0 b1 b2 b3 b4 i0 i1 i2 i3 i4 : Nat} {x0 x1 x2 x3 x4 : Value} {g B : Nat} {w2 : World} (H : w1.cell? ⟨b0, i0, none⟩ = some x0 ∧ w1.cell? ⟨b1, i1, none⟩ = some x1 ∧ w1.cell? ⟨b2, i2, none⟩ = some x2 ∧ w1.cell? ⟨b3, i3, none⟩ = some x3 ∧ w1.cell? ⟨b4, i4, none⟩ = some x4 ∧ w1.cell? ⟨g, 0, none⟩ = some (cv w1 g 0) ∧ w1.cell? ⟨g, 1, none⟩ = some (cv w1 g 1) ∧ w1.cell? ⟨g, 2, none⟩ = some (cv w1 g 2) ∧ w1.frozen? ⟨g, 0, none⟩ = false ∧ w1.frozen? ⟨g, 1, none⟩ = false ∧ w1.frozen? ⟨g, 2, none⟩ = false ∧ Below B w w1) (hb : Below w1.heap.size w1 w2) : w2.cell? ⟨g, 0, none⟩ = some (cv w2 g 0) ∧ w2.cell? ⟨g, 1, none⟩ = some (cv w2 g 1) ∧ w2.cell? ⟨g, 2, none⟩ = some (cv w2 g 2) := by
  obtain ⟨_, _, _, _, _, h2, h3, h4, _⟩ := H
  have hlt : g < w1.heap.size := World.block_lt_of_cell? _ _ h2
  exact ⟨cv_of (by rw [hb.cell (p := ⟨g, 0, none⟩) hlt, h2]; rfl), cv_of (by rw [hb.cell (p := ⟨g, 1, none⟩) hlt, h3]; rfl), cv_of (by rw [hb.cell (p := ⟨g, 2, none⟩) hlt, h4]; rfl)⟩
theorem stepP3 {w w1 : World} {b0 b1 b2 i0 i1 i2 : Nat} {x0 x1 x2 : Value} {g B : Nat} {w2 : World} (hB : B ≤ w.heap.size) (H : w1.cell? ⟨b0, i0, none⟩ = some x0 ∧ w1.cell? ⟨b1, i1, none⟩ = some x1 ∧ w1.cell? ⟨b2, i2, none⟩ = some x2 ∧ w1.cell? ⟨g, 0, none⟩ = some (cv w1 g 0) ∧ w1.cell? ⟨g, 1, none⟩ = some (cv w1 g 1) ∧ w1.cell? ⟨g, 2, none⟩ = some (cv w1 g 2) ∧ w1.frozen? ⟨g, 0, none⟩ = false ∧ w1.frozen? ⟨g, 1, none⟩ = false ∧ w1.frozen? ⟨g, 2, none⟩ = false ∧ Below B w w1) (hb : Below w1.heap.size w1 w2) : w2.cell? ⟨b0, i0, none⟩ = some x0 ∧ w2.cell? ⟨b1, i1, none⟩ = some x1 ∧ w2.cell? ⟨b2, i2, none⟩ = some x2 ∧ w2.cell? ⟨g, 0, none⟩ = some (cv w2 g 0) ∧ w2.cell? ⟨g, 1, none⟩ = some (cv w2 g 1) ∧ w2.cell? ⟨g, 2, none⟩ = some (cv w2 g 2) ∧ w2.frozen? ⟨g, 0, none⟩ = false ∧ w2.frozen? ⟨g, 1, none⟩ = false ∧ w2.frozen? ⟨g, 2, none⟩ = false ∧ Below B w w2 := by
  obtain ⟨k0, k1, k2, h2, h3, h4, h5, h6, h7, hq⟩ := H
  have hlt : g < w1.heap.size := World.block_lt_of_cell? _ _ h2
  exact ⟨(hb.cell (p := ⟨b0, i0, none⟩) (World.block_lt_of_cell? _ _ k0)).trans k0, (hb.cell (p := ⟨b1, i1, none⟩) (World.block_lt_of_cell? _ _ k1)).trans k1, (hb.cell (p := ⟨b2, i2, none⟩) (World.block_lt_of_cell? _ _ k2)).trans k2, cv_of (by rw [hb.cell (p := ⟨g, 0, none⟩) hlt, h2]; rfl), cv_of (by rw [hb.cell (p := ⟨g, 1, none⟩) hlt, h3]; rfl), cv_of (by rw [hb.cell (p := ⟨g, 2, none⟩) hlt, h4]; rfl), (hb.frozen (p := ⟨g, 0, none⟩) hlt).trans h5, (hb.frozen (p := ⟨g, 1, none⟩) hlt).trans h6, (hb.frozen (p := ⟨g, 2, none⟩) hlt).trans h7, hq.trans (hb.mono (Nat.le_trans hB hq.size))⟩
theorem stepP3s {w w1 : World} {b0 b1 b2 i0 i1 i2 : Nat} {x0 x1 x2 : Value} {g B : Nat} {j : Nat} {y : Value} (H : w1.cell? ⟨b0, i0, none⟩ = some x0 ∧ w1.cell? ⟨b1, i1, none⟩ = some x1 ∧ w1.cell? ⟨b2, i2, none⟩ = some x2 ∧ w1.cell? ⟨g, 0, none⟩ = some (cv w1 g 0) ∧ w1.cell? ⟨g, 1, none⟩ = some (cv w1 g 1) ∧ w1.cell? ⟨g, 2, none⟩ = some (cv w1 g 2) ∧ w1.frozen? ⟨g, 0, none⟩ = false ∧ w1.frozen? ⟨g, 1, none⟩ = false ∧ w1.frozen? ⟨g, 2, none⟩ = false ∧ Below B w w1) (h0_ : g ≠ b0) (h1_ : g ≠ b1) (h2_ : g ≠ b2) (hg : B ≤ g) : (w1.setCell ⟨g, j, none⟩ y).cell? ⟨b0, i0, none⟩ = some x0 ∧ (w1.setCell ⟨g, j, none⟩ y).cell? ⟨b1, i1, none⟩ = some x1 ∧ (w1.setCell ⟨g, j, none⟩ y).cell? ⟨b2, i2, none⟩ = some x2 ∧ (w1.setCell ⟨g, j, none⟩ y).cell? ⟨g, 0, none⟩ = some (cv (w1.setCell ⟨g, j, none⟩ y) g 0) ∧ (w1.setCell ⟨g, j, none⟩ y).cell? ⟨g, 1, none⟩ = some (cv (w1.setCell ⟨g, j, none⟩ y) g 1) ∧ (w1.setCell ⟨g, j, none⟩ y).cell? ⟨g, 2, none⟩ = some (cv (w1.setCell ⟨g, j, none⟩ y) g 2) ∧ (w1.setCell ⟨g, j, none⟩ y).frozen? ⟨g, 0, none⟩ = false ∧ (w1.setCell ⟨g, j, none⟩ y).frozen? ⟨g, 1, none⟩ = false ∧ (w1.setCell ⟨g, j, none⟩ y).frozen? ⟨g, 2, none⟩ = false ∧ Below B w (w1.setCell ⟨g, j, none⟩ y) := by
  obtain ⟨k0, k1, k2, h2, h3, h4, h5, h6, h7, hq⟩ := H
  exact ⟨(World.cell?_setCell_far w1 ⟨g, j, none⟩ ⟨b0, i0, none⟩ y h0_).trans k0, (World.cell?_setCell_far w1 ⟨g, j, none⟩ ⟨b1, i1, none⟩ y h1_).trans k1, (World.cell?_setCell_far w1 ⟨g, j, none⟩ ⟨b2, i2, none⟩ y h2_).trans k2, cv_of (isSome_set (by rw [h2]; rfl)), cv_of (isSome_set (by rw [h3]; rfl)), cv_of (isSome_set (by rw [h4]; rfl)), (World.frozen?_setCell _ _ _ _).trans h5, (World.frozen?_setCell _ _ _ _).trans h6, (World.frozen?_setCell _ _ _ _).trans h7, hq.setCell hg _⟩
theorem lastP3 {w w1 : World} {b0 b1 b2 i0 i1 i2 : Nat} {x0 x1 x2 : Value} {g B : Nat} (H : w1.cell? ⟨b0, i0, none⟩ = some x0 ∧ w1.cell? ⟨b1, i1, none⟩ = some x1 ∧ w1.cell? ⟨b2, i2, none⟩ = some x2 ∧ w1.cell? ⟨g, 0, none⟩ = some (cv w1 g 0) ∧ w1.cell? ⟨g, 1, none⟩ = some (cv w1 g 1) ∧ w1.cell? ⟨g, 2, none⟩ = some (cv w1 g 2) ∧ w1.frozen? ⟨g, 0, none⟩ = false ∧ w1.frozen? ⟨g, 1, none⟩ = false ∧ w1.frozen? ⟨g, 2, none⟩ = false ∧ Below B w w1) : Below B w w1 := H.2.2.2.2.2.2.2.2.2
theorem ltP3 {w w1 : World} {b0 b1 b2 i0 i1 i2 : Nat} {x0 x1 x2 : Value} {g B : Nat} (H : w1.cell? ⟨b0, i0, none⟩ = some x0 ∧ w1.cell? ⟨b1, i1, none⟩ = some x1 ∧ w1.cell? ⟨b2, i2, none⟩ = some x2 ∧ w1.cell? ⟨g, 0, none⟩ = some (cv w1 g 0) ∧ w1.cell? ⟨g, 1, none⟩ = some (cv w1 g 1) ∧ w1.cell? ⟨g, 2, none⟩ = some (cv w1 g 2) ∧ w1.frozen? ⟨g, 0, none⟩ = false ∧ w1.frozen? ⟨g, 1, none⟩ = false ∧ w1.frozen? ⟨g, 2, none⟩ = false ∧ Below B w w1) : g < w1.heap.size := World.block_lt_of_cell? _ _ H.2.2.2.1
theorem z3P3 {w w1 : World} {b0 b1 b2 i0 i1 i2 : Nat} {x0 x1 x2 : Value} {g B : Nat} {w2 : World} (H : w1.cell? ⟨b0, i0, none⟩ = some x0 ∧ w1.cell? ⟨b1, i1, none⟩ = some x1 ∧ w1.cell? ⟨b2, i2, none⟩ = some x2 ∧ w1.cell? ⟨g, 0, none⟩ = some (cv w1 g 0) ∧ w1.cell? ⟨g, 1, none⟩ = some (cv w1 g 1) ∧ w1.cell? ⟨g, 2, none⟩ = some (cv w1 g 2) ∧ w1.frozen? ⟨g, 0, none⟩ = false ∧ w1.frozen? ⟨g, 1, none⟩ = false ∧ w1.frozen? ⟨g, 2, none⟩ = false ∧ Below B w w1) (hb : Below w1.heap.size w1 w2) : w2.cell? ⟨g, 0, none⟩ = some (cv w2 g 0) ∧ w2.cell? ⟨g, 1, none⟩ = some (cv w2 g 1) ∧ w2.cell? ⟨g, 2, none⟩ = some (cv w2 g 2) := by
  obtain ⟨_, _, _, h2, h3, h4, _⟩ := H
  have hlt : g < w1.heap.size := World.block_lt_of_cell? _ _ h2
  exact ⟨cv_of (by rw [hb.cell (p := ⟨g, 0, none⟩) hlt, h2]; rfl), cv_of (by rw [hb.cell (p := ⟨g, 1, none⟩) hlt, h3]; rfl), cv_of (by rw [hb.cell (p := ⟨g, 2, none⟩) hlt, h4]; rfl)⟩
theorem alloc_below1 (w : World) (o : Obj) : Below w.heap.size w (w.alloc o) := (Below.refl _ _).alloc (Nat.le_refl _) _
theorem startP5 {w w1 : World} {b0 b1 b2 b3 b4 i0 i1 i2 i3 i4 : Nat} {x0 x1 x2 x3 x4 : Value} {g B : Nat} (H : w1.cell? ⟨b0, i0, none⟩ = some x0 ∧ w1.cell? ⟨b1, i1, none⟩ = some x1 ∧ w1.cell? ⟨b2, i2, none⟩ = some x2 ∧ w1.cell? ⟨b3, i3, none⟩ = some x3 ∧ w1.cell? ⟨b4, i4, none⟩ = some x4 ∧ Kp B w (row1 g zn) w1) : w1.cell? ⟨b0, i0, none⟩ = some x0 ∧ w1.cell? ⟨b1, i1, none⟩ = some x1 ∧ w1.cell? ⟨b2, i2, none⟩ = some x2 ∧ w1.cell? ⟨b3, i3, none⟩ = some x3 ∧ w1.cell? ⟨b4, i4, none⟩ = some x4 ∧ w1.cell? ⟨g, 0, none⟩ = some (cv w1 g 0) ∧ w1.cell? ⟨g, 1, none⟩ = some (cv w1 g 1) ∧ w1.cell? ⟨g, 2, none⟩ = some (cv w1 g 2) ∧ w1.frozen? ⟨g, 0, none⟩ = false ∧ w1.frozen? ⟨g, 1, none⟩ = false ∧ w1.frozen? ⟨g, 2, none⟩ = false ∧ Below B w w1 := by
  obtain ⟨k0, k1, k2, k3, k4, hk⟩ := H
  obtain ⟨⟨z0, z1, z2⟩, f0, f1, f2⟩ := hk.zn
  exact ⟨k0, k1, k2, k3, k4, cv_of (by rw [z0]; rfl), cv_of (by rw [z1]; rfl), cv_of (by rw [z2]; rfl), f0, f1, f2, hk.below⟩
theorem startP3 {w w1 : World} {b0 b1 b2 i0 i1 i2 : Nat} {x0 x1 x2 : Value} {g B : Nat} (H : w1.cell? ⟨b0, i0, none⟩ = some x0 ∧ w1.cell? ⟨b1, i1, none⟩ = some x1 ∧ w1.cell? ⟨b2, i2, none⟩ = some x2 ∧ Kp B w (row1 g zn) w1) : w1.cell? ⟨b0, i0, none⟩ = some x0 ∧ w1.cell? ⟨b1, i1, none⟩ = some x1 ∧ w1.cell? ⟨b2, i2, none⟩ = some x2 ∧ w1.cell? ⟨g, 0, none⟩ = some (cv w1 g 0) ∧ w1.cell? ⟨g, 1, none⟩ = some (cv w1 g 1) ∧ w1.cell? ⟨g, 2, none⟩ = some (cv w1 g 2) ∧ w1.frozen? ⟨g, 0, none⟩ = false ∧ w1.frozen? ⟨g, 1, none⟩ = false ∧ w1.frozen? ⟨g, 2, none⟩ = false ∧ Below B w w1 := by
  obtain ⟨k0, k1, k2, hk⟩ := H
  obtain ⟨⟨z0, z1, z2⟩, f0, f1, f2⟩ := hk.zn
  exact ⟨k0, k1, k2, cv_of (by rw [z0]; rfl), cv_of (by rw [z1]; rfl), cv_of (by rw [z2]; rfl), f0, f1, f2, hk.below⟩
end Go.Proofs.YtdgcdekgleegbaaGreat
