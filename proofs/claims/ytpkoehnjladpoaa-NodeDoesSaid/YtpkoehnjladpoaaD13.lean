/- Texts of one seat, merged. -/
import Derived.Test.YtpkoehnjladpoaaD12
import Derived.Test.YtpkoehnjladpoaaD06
import Derived.Test.YtpkoehnjladpoaaD10
import Derived.Test.YtpkoehnjladpoaaD08
set_option maxRecDepth 100000
set_option maxHeartbeats 4000000
set_option linter.unusedVariables false
/- The contracts of a branch's Put, a leaf's Insert (nothing is done), and of hasKid. -/
namespace Go.Proofs.Ytpkoehnjladpoaa
open Go.RowKit
open Sl (Cl Kd Nd Rn)
theorem three_zn (w : World) (A C : Array Value) (S U : TypeId) : Kp w.heap.size w (row1 (w.heap.size + 1 + 1) zn) (((w.alloc (.cells A S)).alloc (.cells C U)).alloc (.cells #[.bool false, .slice none 0 0, .slice none 0 0] 46)) ∧ w.heap.size + 1 + 1 < (((w.alloc (.cells A S)).alloc (.cells C U)).alloc (.cells #[.bool false, .slice none 0 0, .slice none 0 0] 46)).heap.size := by
  have hS : ((w.alloc (.cells A S)).alloc (.cells C U)).heap.size = w.heap.size + 1 + 1 := by simp
  have hk := Kp.laid (boxB w (.cells A S) (.cells C U)) (by rw [hS]; omega) #[.bool false, .slice none 0 0, .slice none 0 0] 46
  rw [hS] at hk
  exact ⟨hk, by simp⟩
theorem put_branch (v : Value) (n : Nd) (x : Cl) (w : World) (hv : NdV w v n) (hlf : n.leaf = false) (hl : n.ks.length ≤ 100000) :
    Calls Try.prog 20 #[v, aggC x] w (RetN ⟨false, [], n.ks⟩ w) := by
  have HOW := Lib.hid (fun W (hW : Below w.heap.size w W) => ownK_any v n W (hv.below hW) hlf hl)
  obtain ⟨vc, vk, rfl, hc, hcc, hk, hkk⟩ := hv
  rw [hlf] at HOW ⊢
  unfold ndV at HOW ⊢
  unfold aggC
  obtain ⟨a, m, c, _, _, _⟩ := hcc
  obtain ⟨a', m', c', _, _, _⟩ := hkk
  clear hc hk hlf hl
  generalize n.ks = l at *
  have HST := Lib.hid (fun x1 x2 => three_zn w #[.bool false, x1, x2] #[.string (str x.key), .string (str x.val), .int .u32 x.chain, .int .u32 x.long] 46 42)
  go_enter Try.func20, Try.ntmps20
  go_wp2_with (go_at_call 55; (refine (HOW.out _ (HST.out _ _).1.below).mono ?_); rintro e w5 ⟨v5, rfl, hr5, hb5⟩; have HK5 := Lib.hid ((HST.out _ _).1.step (Nat.le_refl _) hb5); have HQ := Lib.hid (HST.out (.slice a m c) (.slice a' m' c')).2; obtain ⟨a5, n5, c5, ha5, hc5, hn5⟩ := hr5.cap; have HCP := Lib.hid (Cap.mk a5 n5 c5 ha5 hc5 hn5); have HR5 := Lib.hid hr5; clear hr5 hb5; unfold ndV; obtain ⟨⟨z0, z1, z2⟩, f0, f1, f2⟩ := HK5.out.zn)
  have hq := HQ.out
  refine bodyPost_ret_by (v := ndV false (.slice none 0 0) (.slice a5 n5 c5)) ?_ rfl ?_
  · simp [ndV, results, Try.results20, go_sem, z0, z1, z2]
  · exact ⟨_, rfl, ⟨_, _, rfl, SlC.nil _, cap_nil, (((HR5.out.set hq _).set hq _).set hq _).sl, HCP.out⟩, below_set3 HK5.out.below (by omega)⟩
theorem insert_leaf (v : Value) (n : Nd) (x : Kd) (w : World) (hv : NdV w v n) (hlf : n.leaf = true) (hl : n.cs.length ≤ 100000) :
    Calls Try.prog 23 #[v, aggK x] w (RetN ⟨true, n.cs, []⟩ w) := by
  have HOW := Lib.hid (fun W (hW : Below w.heap.size w W) => ownC_any v n W (hv.below hW) hlf hl)
  obtain ⟨vc, vk, rfl, hc, hcc, hk, hkk⟩ := hv
  rw [hlf] at HOW ⊢
  unfold ndV at HOW ⊢
  unfold aggK
  obtain ⟨a, m, c, _, _, _⟩ := hcc
  obtain ⟨a', m', c', _, _, _⟩ := hkk
  clear hc hk hlf hl
  generalize n.cs = l at *
  have HST := Lib.hid (fun x1 x2 => three_zn w #[.bool true, x1, x2] #[.string (str x.key), .int .u32 x.page] 46 52)
  go_enter Try.func23, Try.ntmps23
  go_wp2_with (go_at_call 55; (refine (HOW.out _ (HST.out _ _).1.below).mono ?_); rintro e w5 ⟨v5, rfl, hr5, hb5⟩; have HK5 := Lib.hid ((HST.out _ _).1.step (Nat.le_refl _) hb5); have HQ := Lib.hid (HST.out (.slice a m c) (.slice a' m' c')).2; obtain ⟨a5, n5, c5, ha5, hc5, hn5⟩ := hr5.cap; have HCP := Lib.hid (Cap.mk a5 n5 c5 ha5 hc5 hn5); have HR5 := Lib.hid hr5; clear hr5 hb5; unfold ndV; obtain ⟨⟨z0, z1, z2⟩, f0, f1, f2⟩ := HK5.out.zn)
  have hq := HQ.out
  refine bodyPost_ret_by (v := ndV true (.slice a5 n5 c5) (.slice none 0 0)) ?_ rfl ?_
  · simp [ndV, results, Try.results23, go_sem, z0, z1, z2]
  · exact ⟨_, rfl, ⟨_, _, rfl, (((HR5.out.set hq _).set hq _).set hq _).sl, HCP.out, SlK.nil _, cap_nil⟩, below_set3 HK5.out.below (by omega)⟩
end Go.Proofs.Ytpkoehnjladpoaa
/- The contract of a leaf's Cut. -/
namespace Go.Proofs.Ytpkoehnjladpoaa
open Go.RowKit
open Sl (Cl Kd Nd Rn)
theorem step3b {w w1 w2 : World} {B : Nat} {p0 p1 p2 : Addr} {x0 x1 x2 : Value} (hB : B ≤ w.heap.size) (H : w1.cell? p0 = some x0 ∧ w1.cell? p1 = some x1 ∧ w1.cell? p2 = some x2 ∧ Below B w w1) (hb : Below w1.heap.size w1 w2) : w2.cell? p0 = some x0 ∧ w2.cell? p1 = some x1 ∧ w2.cell? p2 = some x2 ∧ Below B w w2 := by
  obtain ⟨h0, h1, h2, hq⟩ := H
  exact ⟨(hb.cell (p := p0) (World.block_lt_of_cell? _ _ h0)).trans h0, (hb.cell (p := p1) (World.block_lt_of_cell? _ _ h1)).trans h1, (hb.cell (p := p2) (World.block_lt_of_cell? _ _ h2)).trans h2, hq.trans (hb.mono (Nat.le_trans hB hq.size))⟩
theorem last3b {w w1 : World} {B : Nat} {p0 p1 p2 : Addr} {x0 x1 x2 : Value} (H : w1.cell? p0 = some x0 ∧ w1.cell? p1 = some x1 ∧ w1.cell? p2 = some x2 ∧ Below B w w1) : Below B w w1 := H.2.2.2
def zcl : Array Value := #[.string ⟨#[]⟩, .string ⟨#[]⟩, .int .u32 0, .int .u32 0]
theorem Kp.four {B : Nat} {w0 w : World} {g : Nat} {x0 x1 x2 x3 : Value} (h : Kp B w0 (row1 g #[x0, x1, x2, x3]) w) : (w.cell? ⟨g, 0, none⟩ = some x0 ∧ w.cell? ⟨g, 1, none⟩ = some x1 ∧ w.cell? ⟨g, 2, none⟩ = some x2 ∧ w.cell? ⟨g, 3, none⟩ = some x3) ∧ (w.frozen? ⟨g, 0, none⟩ = false ∧ w.frozen? ⟨g, 1, none⟩ = false ∧ w.frozen? ⟨g, 2, none⟩ = false ∧ w.frozen? ⟨g, 3, none⟩ = false) := by
  have hm : ∀ i, i < 4 → ((⟨g, i, none⟩ : Addr), (#[x0, x1, x2, x3] : Array Value)[i]!) ∈ row1 g #[x0, x1, x2, x3] := fun i hi => List.mem_map.2 ⟨i, List.mem_range.2 hi, rfl⟩
  exact ⟨⟨h.cell _ (hm 0 (by decide)), h.cell _ (hm 1 (by decide)), h.cell _ (hm 2 (by decide)), h.cell _ (hm 3 (by decide))⟩, h.froz _ (hm 0 (by decide)), h.froz _ (hm 1 (by decide)), h.froz _ (hm 2 (by decide)), h.froz _ (hm 3 (by decide))⟩
theorem ownsRow_set_ne {w : World} {B : Nat} {e : TypeId} {sz : Nat} {v : Value} {n : Nat} {xs : List Value} (h : w.ownsRow B e sz v n xs) {a : Addr} (ha : v.ownBlock ≠ some a.block) (u : Value) : (w.setCell a u).ownsRow B e sz v n xs := by
  obtain ⟨h0, h1⟩ := h
  refine ⟨h0, ?_⟩
  rcases h1 with h1 | ⟨g, cap, cur, hv, hB, hg, h2, h3, h4, h5⟩
  · exact .inl h1
  · refine .inr ⟨g, cap, cur, hv, hB, ?_, h2, h3, h4, h5⟩
    rw [Below.heap_setCell w a u g (fun hh => ha (by rw [hv, hh]; rfl))]; exact hg
theorem set7_row {w1 : World} {B g1 g2 : Nat} {v : Value} {l : List Cl} {x0 x1 x2 x3 x4 x5 x6 : Value} (h : RowC w1 B v l) (h1 : g1 < B) (h2 : g2 < B) : RowC (((((((w1.setCell ⟨g1, 0, none⟩ x0).setCell ⟨g1, 1, none⟩ x1).setCell ⟨g1, 2, none⟩ x2).setCell ⟨g2, 0, none⟩ x3).setCell ⟨g2, 1, none⟩ x4).setCell ⟨g2, 2, none⟩ x5).setCell ⟨g2, 3, none⟩ x6) B v l :=
  ((((((h.set h1 _).set h1 _).set h1 _).set h2 _).set h2 _).set h2 _).set h2 _
theorem set7_below {w w1 : World} {B g1 g2 : Nat} {x0 x1 x2 x3 x4 x5 x6 : Value} (h : Below B w w1) (h1 : B ≤ g1) (h2 : B ≤ g2) : Below B w (((((((w1.setCell ⟨g1, 0, none⟩ x0).setCell ⟨g1, 1, none⟩ x1).setCell ⟨g1, 2, none⟩ x2).setCell ⟨g2, 0, none⟩ x3).setCell ⟨g2, 1, none⟩ x4).setCell ⟨g2, 2, none⟩ x5).setCell ⟨g2, 3, none⟩ x6) :=
  ((((below_set3 h h1).setCell (p := ⟨g2, 0, none⟩) h2 _).setCell (p := ⟨g2, 1, none⟩) h2 _).setCell (p := ⟨g2, 2, none⟩) h2 _).setCell (p := ⟨g2, 3, none⟩) h2 _
theorem Kp.stepB {B B' : Nat} {w0 w w' : World} {L : List (Addr × Value)} (h : Kp B w0 L w) (hb : Below B' w w') (hL : ∀ p ∈ L, p.1.block < B') (hB : B ≤ B') : Kp B w0 L w' :=
  ⟨fun p hp => (hb.cell (p := p.1) (hL p hp)).trans (h.cell p hp), fun p hp => (hb.frozen (p := p.1) (hL p hp)).trans (h.froz p hp), h.below.trans (hb.mono hB)⟩
theorem row1_block {g : Nat} {A : Array Value} {p : Addr × Value} (h : p ∈ row1 g A) : p.1.block = g := by
  obtain ⟨i, _, rfl⟩ := List.mem_map.1 h
  rfl
/-- Two boxes that are written, at one time or another, and what else lies there. -/
inductive CutNz (l : List Cl) (k : List UInt8) (w : World) (e : Ending) (w' : World) : Prop
  | mk (vc : Value) (x : Cl) (he : e = .returned (.tuple #[ndV true vc (.slice none 0 0), aggC x, .bool (Sl.there Sl.shC l k)])) (hx : Sl.there Sl.shC l k = true → l[Sl.place Sl.shC l k]? = some x) (hx0 : Sl.there Sl.shC l k = false → x = ⟨[], [], 0, 0⟩) (hv : SlC w' vc (Sl.cutL Sl.shC l k)) (hq : Cap vc) (hb : Below w.heap.size w w')
set_option maxHeartbeats 8000000 in
theorem cut20_any (v : Value) (n : Nd) (key : List UInt8) (w : World) (hv : NdV w v n) (hlf : n.leaf = true) (hl : n.cs.length ≤ 90000) (hr : Sl.rises Sl.shC n.cs = true) :
    Calls Try.prog 17 #[v, .string (str key)] w (CutNz n.cs key w) := by
  have HOW := Lib.hid (fun W (hW : Below w.heap.size w W) => ownC_any v n W (hv.below hW) hlf (by omega))
  have HLV := Lib.hid (fun W => leaves_any W)
  have HFD := Lib.hid (fun W v (hW : SlC W v n.cs) => findC_any v n.cs (by omega) key W hW hr)
  obtain ⟨vc, vk, rfl, hc, hcc, hk, hkk⟩ := hv
  rw [hlf] at HOW ⊢
  unfold ndV at HOW ⊢
  unfold shpC at HLV HFD
  obtain ⟨a, m, c, _, _, _⟩ := hcc
  obtain ⟨a', m', c', _, _, _⟩ := hkk
  have HLE := Lib.hid hl
  have HDEL := Lib.hid (fun B v W (hi : Sl.place Sl.shC n.cs key < n.cs.length) hv => delC_any B (Sl.place Sl.shC n.cs key) v n.cs W hi (by omega) hv)
  have hth := Sl.there_at Sl.shC n.cs key
  clear hc hk hlf hl hr
  have HCUT : Hid (Sl.cutL Sl.shC n.cs key = if Sl.there Sl.shC n.cs key then n.cs.take (Sl.place Sl.shC n.cs key) ++ n.cs.drop (Sl.place Sl.shC n.cs key + 1) else n.cs) := rfl
  have HTH := Lib.hid hth
  clear hth
  have HPOST : Hid (∀ vc x e w', e = .returned (.tuple #[.agg #[.bool true, vc, .slice none 0 0], .agg #[.string (str x.key), .string (str x.val), .int .u32 x.chain, .int .u32 x.long], .bool (Sl.there Sl.shC n.cs key)]) → (Sl.there Sl.shC n.cs key = true → n.cs[Sl.place Sl.shC n.cs key]? = some x) → (Sl.there Sl.shC n.cs key = false → x = ⟨[], [], 0, 0⟩) → SlC w' vc (Sl.cutL Sl.shC n.cs key) → Cap vc → Below w.heap.size w w' → CutNz n.cs key w e w') := fun vc x e w' h1 h2 hz h3 h4 h5 => ⟨vc, x, h1, h2, hz, h3, h4, h5⟩
  generalize CutNz n.cs key w = PO at HPOST ⊢
  generalize Sl.cutL Sl.shC n.cs key = LC at *
  generalize n.cs = l at *
  generalize Sl.place Sl.shC l key = p at *
  generalize Sl.there Sl.shC l key = th at *
  have HST : Hid (∀ x1 x2, Kp w.heap.size w (row1 (w.heap.size + 1) zn ++ row1 (w.heap.size + 1 + 1) zcl) (((w.alloc (.cells #[.bool true, x1, x2] 46)).alloc (.cells #[.bool false, .slice none 0 0, .slice none 0 0] 46)).alloc (.cells #[.string ⟨#[]⟩, .string ⟨#[]⟩, .int .u32 0, .int .u32 0] 42)) ∧ (((w.alloc (.cells #[.bool true, x1, x2] 46)).alloc (.cells #[.bool false, .slice none 0 0, .slice none 0 0] 46)).alloc (.cells #[.string ⟨#[]⟩, .string ⟨#[]⟩, .int .u32 0, .int .u32 0] 42)).heap.size = w.heap.size + 1 + 1 + 1) := fun x1 x2 => by
    have hS : ((w.alloc (.cells #[.bool true, x1, x2] 46)).alloc (.cells #[.bool false, .slice none 0 0, .slice none 0 0] 46)).heap.size = w.heap.size + 1 + 1 := by simp
    have h0 : Kp w.heap.size w (row1 (w.heap.size + 1) zn) ((w.alloc (.cells #[.bool true, x1, x2] 46)).alloc (.cells #[.bool false, .slice none 0 0, .slice none 0 0] 46)) := ⟨(startK w _ _ _ _).cell, (startK w _ _ _ _).froz, boxB w _ _⟩
    have h1 := h0.step (Nat.le_refl _) ((Below.refl _ _).alloc (Nat.le_refl _) (.cells #[.string ⟨#[]⟩, .string ⟨#[]⟩, .int .u32 0, .int .u32 0] 42))
    have h2 := Kp.laid h0.below h0.below.size #[.string ⟨#[]⟩, .string ⟨#[]⟩, .int .u32 0, .int .u32 0] 42
    rw [hS] at h2
    exact ⟨h1.both h2, by simp⟩
  go_enter Try.func17, Try.ntmps17
  go_upto_region 2 with (go_at_call 55; (refine (HOW.out _ (HST.out _ _).1.below).mono ?_); rintro e w5 ⟨v5, rfl, hr5, hb5⟩; have HK5 := Lib.hid ((HST.out _ _).1.step (Nat.le_refl _) hb5); have HS3 := Lib.hid (HST.out (.slice a m c) (.slice a' m' c')).2; obtain ⟨a5, n5, c5, ha5, hc5, hn5⟩ := hr5.cap; have HCP := Lib.hid (Cap.mk a5 n5 c5 ha5 hc5 hn5); have HR5 := Lib.hid (hr5.base (Nat.le_of_eq (HST.out (.slice a m c) (.slice a' m' c')).2.symm)); clear hr5 hb5; unfold ndV)
  have HK6 := Lib.hid (HK5.out.more (Nat.le_refl _) #[.bool true, .slice a5 n5 c5, .slice none 0 0] 46)
  have HR6 := Lib.hid (HR5.out.below ((Below.refl w5.heap.size w5).alloc (Nat.le_refl _) (.cells #[.bool true, .slice a5 n5 c5, .slice none 0 0] 46)))
  have HQ6 : Hid (w.heap.size + 1 + 1 + 1 ≤ w5.heap.size) := by
    have h1 := HK5.out.right
    have h2 := World.block_lt_of_cell? _ _ h1.four.1.1
    exact h2
  clear HK5 HR5 HOW HST
  generalize (w5.alloc (.cells #[.bool true, .slice a5 n5 c5, .slice none 0 0] 46)) = W6 at HK6 HR6 ⊢
  generalize w5.heap.size = q at HK6 HQ6 ⊢
  have hF : Hid (W6.drew.cell? ⟨q, 0, none⟩ = some (.bool true) ∧ W6.drew.cell? ⟨q, 1, none⟩ = some (.slice a5 n5 c5) ∧ W6.drew.cell? ⟨q, 2, none⟩ = some (.slice none 0 0) ∧ Below W6.heap.size W6 W6.drew) := by
    obtain ⟨⟨c0, c1, c2⟩, _⟩ := HK6.out.right.three
    exact ⟨c0, c1, c2, (Below.refl _ _).drew⟩
  cases th with
  | false =>
    have HLC : Hid (LC = l) := HCUT.out
    go_wp2_with fail
    go_region_held3 (fun w' => w'.cell? ⟨q, 0, none⟩ = some (.bool true) ∧ w'.cell? ⟨q, 1, none⟩ = some (.slice a5 n5 c5) ∧ w'.cell? ⟨q, 2, none⟩ = some (.slice none 0 0) ∧ Below W6.heap.size W6 w')
      ((first | assumption | exact step3b (Nat.le_refl _) ‹_› hb | exact hF.out))
      (first
      | (go_at_call 56; (with_reducible refine (HLV.out _).mono ?_); rintro e w7 ⟨rfl, hb⟩)
      | (go_at_call 57; (refine (HFD.out _ _ ((HR6.out.below (last3b (by assumption))).sl)).mono ?_); rintro e w8 ⟨rfl, hb⟩))
    rename_i hS
    have HS := Lib.hid hS
    clear hS hF
    have HK8 := Lib.hid (HK6.out.step (Nat.le_refl _) (last3b HS.out))
    have HR8 := Lib.hid (HR6.out.below (last3b HS.out))
    obtain ⟨⟨c0, c1, c2⟩, _⟩ := HK8.out.right.three
    obtain ⟨⟨z0, z1, z2⟩, f0, f1, f2⟩ := HK8.out.left.left.zn
    obtain ⟨⟨y0, y1, y2, y3⟩, g0, g1, g2, g3⟩ := HK8.out.left.right.four
    go_wp2
    refine bodyPost_ret_by (v := .tuple #[.agg #[.bool true, .slice a5 n5 c5, .slice none 0 0], .agg #[.string ⟨#[]⟩, .string ⟨#[]⟩, .int .u32 0, .int .u32 0], .bool false]) ?_ rfl ?_
    · simp [results, Try.results17, go_sem, z0, z1, z2, y0, y1, y2, y3]
    · exact HPOST.out (.slice a5 n5 c5) ⟨[], [], 0, 0⟩ _ _ rfl (fun h => by cases h) (fun _ => rfl) (by rw [HLC.out]; exact (set7_row HR8.out (by omega) (by omega)).sl) HCP.out (set7_below HK8.out.below (by omega) (by omega))
  | true =>
    have HLC : Hid (LC = l.take p ++ l.drop (p + 1)) := HCUT.out
    obtain ⟨y, hy, _, hpl⟩ := HTH.out rfl
    have HY := Lib.hid hy
    have HLP := Lib.hid hpl
    clear hy hpl HTH
    go_wp2_with fail
    go_region_held3 (fun w' => w'.cell? ⟨q, 0, none⟩ = some (.bool true) ∧ w'.cell? ⟨q, 1, none⟩ = some (.slice a5 n5 c5) ∧ w'.cell? ⟨q, 2, none⟩ = some (.slice none 0 0) ∧ Below W6.heap.size W6 w')
      ((first | assumption | exact step3b (Nat.le_refl _) ‹_› hb | exact hF.out))
      (first
      | (go_at_call 56; (with_reducible refine (HLV.out _).mono ?_); rintro e w7 ⟨rfl, hb⟩)
      | (go_at_call 57; (refine (HFD.out _ _ ((HR6.out.below (last3b (by assumption))).sl)).mono ?_); rintro e w8 ⟨rfl, hb⟩))
    rename_i hS
    have HS := Lib.hid hS
    clear hS hF
    have HK8 := Lib.hid (HK6.out.step (Nat.le_refl _) (last3b HS.out))
    have HR8 := Lib.hid (HR6.out.below (last3b HS.out))
    clear HS HK6 HR6
    obtain ⟨g, cap, hav, hg, hnc, hcm, hcell, hfr⟩ := row_someC HR8.out (by have := HLP.out; omega)
    simp only [Value.slice.injEq] at hav
    obtain ⟨rfl, rfl, rfl⟩ := hav
    have ck0 := hcell (p * 4 + 0) _ (flat_at cellsC 4 cellsC_len l p 0 y HY.out (by decide))
    have ck1 := hcell (p * 4 + 1) _ (flat_at cellsC 4 cellsC_len l p 1 y HY.out (by decide))
    have ck2 := hcell (p * 4 + 2) _ (flat_at cellsC 4 cellsC_len l p 2 y HY.out (by decide))
    have ck3 := hcell (p * 4 + 3) _ (flat_at cellsC 4 cellsC_len l p 3 y HY.out (by decide))
    rw [Nat.add_zero] at ck0
    obtain ⟨⟨c0, c1, c2⟩, d0, d1, d2⟩ := HK8.out.right.three
    have HGQ : Hid (g ≠ q) := fun h => by
      subst h
      obtain ⟨y0, hy0⟩ : ∃ y0, l[0]? = some y0 := ⟨_, List.getElem?_eq_getElem (by have := HLP.out; omega)⟩
      have := hcell (0 * 4 + 0) _ (flat_at cellsC 4 cellsC_len l 0 0 y0 hy0 (by decide))
      rw [c0] at this
      injection this with this
      cases this
    have HGLT : Hid (g < w8.heap.size) := World.block_lt_of_cell? _ _ ck0
    have HQLT : Hid (q < w8.heap.size) := World.block_lt_of_cell? _ _ c0
    have hpl := HLP.out
    have hpi : (p : Int) < (l.length : Int) := by omega
    have hw1 : IntKind.i64.wrap ((p : Int) + 1) = (p : Int) + 1 := IntWalk.i64_in _ (by have := HLE.out; omega)
    have c1a := fun o => (((Below.refl w8.heap.size w8).alloc (Nat.le_refl _) o).cell (p := ⟨q, 1, none⟩) HQLT.out).trans c1
    have HGB := Lib.hid hg
    clear hcell hg hnc hcm hfr
    go_upto_region 7 with (go_at_call 58; (refine (HDEL.out (w.heap.size + 1 + 1 + 1) _ _ HLP.out (HR8.out.below ((Below.refl w8.heap.size w8).alloc (Nat.le_refl _) _))).mono ?_); rintro e w10 ⟨v10, rfl, hr10, hb10, hk10, hz10, ho10⟩; obtain ⟨a6, n6, c6, ha6, hc6, hn6⟩ := hr10.cap; have HC6 := Lib.hid (Cap.mk a6 n6 c6 ha6 hc6 hn6); have e0 : w10.cell? ⟨q, 0, none⟩ = some (.bool true) := (World.cell?_of_block (hk10 q (fun h => HGQ.out (by injection h)))).trans ((((Below.refl w8.heap.size w8).alloc (Nat.le_refl _) _).cell (p := ⟨q, 0, none⟩) HQLT.out).trans c0); have e1 : w10.cell? ⟨q, 1, none⟩ = some (.slice (some ⟨g, 0, none⟩) l.length c5) := (World.cell?_of_block (hk10 q (fun h => HGQ.out (by injection h)))).trans (c1a _); have e2 : w10.cell? ⟨q, 2, none⟩ = some (.slice none 0 0) := (World.cell?_of_block (hk10 q (fun h => HGQ.out (by injection h)))).trans ((((Below.refl w8.heap.size w8).alloc (Nat.le_refl _) _).cell (p := ⟨q, 2, none⟩) HQLT.out).trans c2); have e3 : w10.frozen? ⟨q, 1, none⟩ = false := (World.frozen?_of_block (hk10 q (fun h => HGQ.out (by injection h)))).trans ((((Below.refl w8.heap.size w8).alloc (Nat.le_refl _) _).frozen (p := ⟨q, 1, none⟩) HQLT.out).trans d1))
    have hbl : ∀ p ∈ row1 (w.heap.size + 1) zn ++ row1 (w.heap.size + 1 + 1) zcl, p.1.block < w.heap.size + 1 + 1 + 1 := fun p hp => by
      rcases List.mem_append.1 hp with h | h
      · rw [row1_block h]; omega
      · rw [row1_block h]; omega
    have HK10 := Lib.hid (((HK8.out.left.step (Nat.le_refl _) ((Below.refl w8.heap.size w8).alloc (Nat.le_refl _) (.cells #[.string (str y.key), .string (str y.val), .int .u32 y.chain, .int .u32 y.long] 42))).stepB hb10 hbl (by omega)).set (p := ⟨q, 1, none⟩) (fun p hp h => by have := hbl p hp; rw [h] at this; have h2 := HQ6.out; exact absurd this (by show ¬ q < _; omega)) (by have h2 := HQ6.out; show _ ≤ q; omega) (.slice a6 n6 c6))
    have ht : ∀ i v, (#[.string (str y.key), .string (str y.val), .int .u32 y.chain, .int .u32 y.long] : Array Value)[i]? = some v → (w10.setCell ⟨q, 1, none⟩ (.slice a6 n6 c6)).cell? ⟨w8.heap.size, i, none⟩ = some v := fun i v hv => by
      have hne : (⟨q, 1, none⟩ : Addr) ≠ ⟨w8.heap.size, i, none⟩ := fun h => by injection h with h _; have := HQLT.out; omega
      rw [World.cell?_setCell_other _ _ _ _ hne, World.cell?_of_block (hk10 w8.heap.size (fun h => by injection h with h; have := HGLT.out; have h3 : g = w8.heap.size := h; omega)), World.cell?_alloc_new]
      exact hv
    have t0 := ht 0 _ rfl
    have t1 := ht 1 _ rfl
    have t2 := ht 2 _ rfl
    have t3 := ht 3 _ rfl
    have f0 : (w10.setCell ⟨q, 1, none⟩ (.slice a6 n6 c6)).cell? ⟨q, 0, none⟩ = some (.bool true) := (World.cell?_setCell_other _ _ _ _ (by simp)).trans e0
    have f1 : (w10.setCell ⟨q, 1, none⟩ (.slice a6 n6 c6)).cell? ⟨q, 1, none⟩ = some (.slice a6 n6 c6) := World.cell?_setCell_same' _ _ _ (by rw [e1]; rfl)
    have f2 : (w10.setCell ⟨q, 1, none⟩ (.slice a6 n6 c6)).cell? ⟨q, 2, none⟩ = some (.slice none 0 0) := (World.cell?_setCell_other _ _ _ _ (by simp)).trans e2
    have HR11 : Hid (RowC (w10.setCell ⟨q, 1, none⟩ (.slice a6 n6 c6)) (w.heap.size + 1 + 1 + 1) (.slice a6 n6 c6) (l.take p ++ l.drop (p + 1))) := ownsRow_set_ne hr10 (by rw [ho10]; exact fun h => HGQ.out (by injection h)) _
    obtain ⟨⟨z0, z1, z2⟩, g0, g1, g2⟩ := HK10.out.left.zn
    obtain ⟨⟨y0, y1, y2, y3⟩, g3, g4, g5, g6⟩ := HK10.out.right.four
    clear e0 e1 e2 e3 c0 c1 c2 d0 d1 d2 ck0 ck1 ck2 ck3 c1a ht hk10 hb10 hz10 ho10 hr10 hbl HK8 HR8
    have HQ7 := HQ6.out
    have HT8 := Lib.hid (show w.heap.size + 1 + 1 + 1 ≤ w8.heap.size by have := HQLT.out; omega)
    generalize (w10.setCell ⟨q, 1, none⟩ (.slice a6 n6 c6)) = W11 at *
    generalize w8.heap.size = t at *
    have ne1 : ¬ (w.heap.size + 1 = t) := by have := HT8.out; omega
    have ne2 : ¬ (w.heap.size + 1 + 1 = t) := by have := HT8.out; omega
    have ne3 : ¬ (w.heap.size + 1 = q) := by omega
    have ne4 : ¬ (w.heap.size + 1 + 1 = q) := by omega
    have ne5 : ¬ (t = w.heap.size + 1) := by have := HT8.out; omega
    have ne6 : ¬ (t = w.heap.size + 1 + 1) := by have := HT8.out; omega
    have ne7 : ¬ (q = w.heap.size + 1) := by omega
    have ne8 : ¬ (q = w.heap.size + 1 + 1) := by omega
    go_region
    all_goals
      go_wp2
      refine bodyPost_ret_by (v := .tuple #[.agg #[.bool true, .slice a6 n6 c6, .slice none 0 0], .agg #[.string (str y.key), .string (str y.val), .int .u32 y.chain, .int .u32 y.long], .bool true]) ?_ rfl ?_
      · simp [results, Try.results17, go_sem, z0, z1, z2, y0, y1, y2, y3]
      · refine HPOST.out (.slice a6 n6 c6) y _ _ rfl (fun _ => HY.out) (fun h => by cases h) ?_ HC6.out ?_
        · rw [HLC.out]
          exact (RowC.below (set7_row HR11.out (by omega) (by omega)) (Below.refl _ _).drew).sl
        · exact (set7_below HK10.out.below (by omega) (by omega)).drew
end Go.Proofs.Ytpkoehnjladpoaa
/- What is put is there, what is cut isn't, all else stays; nothing of the program. -/
namespace Go.Proofs.Ytpkoehnjladpoaa.Sl
variable {α : Type}
theorem rises_pw (S : Sh α) (l : List α) : rises S l = true ↔ l.Pairwise (fun a b => less (S.key a) (S.key b) = true) := by
  constructor
  · intro h
    rw [List.pairwise_iff_getElem]
    intro i j hi hj hij
    obtain ⟨d, rfl⟩ : ∃ d, j = i + d + 1 := ⟨j - i - 1, by omega⟩
    exact rises_pair S l h d i _ _ (List.getElem?_eq_getElem hi) (List.getElem?_eq_getElem hj)
  · intro h
    rw [List.pairwise_iff_getElem] at h
    refine (rises_iff S l).2 fun k a b ha hb => ?_
    obtain ⟨ha1, rfl⟩ := List.getElem?_eq_some_iff.1 ha
    obtain ⟨hb1, rfl⟩ := List.getElem?_eq_some_iff.1 hb
    exact h k (k + 1) ha1 hb1 (by omega)
theorem place_app (S : Sh α) (k : List UInt8) (A : List α) (x : α) (R : List α) (hA : ∀ a ∈ A, less (S.key a) k = true) (hx : less (S.key x) k = false) : place S (A ++ x :: R) k = A.length := by
  refine place_eq S k _ _ (by simp) (fun m y hm hy => ?_) (fun y hy => ?_)
  · rw [List.getElem?_append_left hm] at hy
    exact hA y (List.mem_of_getElem? hy)
  · rw [List.getElem?_append_right (Nat.le_refl _), Nat.sub_self] at hy
    cases hy; exact hx
theorem place_end (S : Sh α) (k : List UInt8) (A R : List α) (hA : ∀ a ∈ A, less (S.key a) k = true) (hR : ∀ r ∈ R, less (S.key r) k = false) : place S (A ++ R) k = A.length := by
  cases R with
  | nil =>
    rw [List.append_nil]
    refine place_eq S k _ _ (Nat.le_refl _) (fun m y hm hy => hA y (List.mem_of_getElem? hy)) (fun y hy => ?_)
    rw [List.getElem?_eq_none (Nat.le_refl _)] at hy; cases hy
  | cons r R => exact place_app S k A r R hA (hR r (List.mem_cons_self))
theorem mem_tw (q : α → Bool) : ∀ (l : List α) (a : α), a ∈ l.takeWhile q → q a = true
  | [], a, h => by simp at h
  | x :: l, a, h => by
    rw [List.takeWhile_cons] at h
    cases hq : q x with
    | true =>
      rw [hq] at h
      rcases List.mem_cons.1 h with rfl | h
      · exact hq
      · exact mem_tw q l a h
    | false => rw [hq] at h; simp at h
theorem at_tw (q : α → Bool) : ∀ (l : List α) (y : α), l[(l.takeWhile q).length]? = some y → q y = false
  | [], y, h => by simp at h
  | x :: l, y, h => by
    rw [List.takeWhile_cons] at h
    cases hq : q x with
    | true =>
      rw [hq] at h
      exact at_tw q l y (by simpa using h)
    | false =>
      rw [hq] at h
      simp at h
      rw [← h]; exact hq
/-- A rising row, parted at a key. -/
structure Parted (S : Sh α) (l : List α) (k : List UInt8) (A R : List α) : Prop where
  lo : ∀ a ∈ A, less (S.key a) k = true
  hi : ∀ r ∈ R, less k (S.key r) = true
  pa : A.Pairwise (fun a b => less (S.key a) (S.key b) = true)
  pr : R.Pairwise (fun a b => less (S.key a) (S.key b) = true)
  yes : there S l k = true → ∃ y, l = A ++ y :: R ∧ S.key y = k
  no : there S l k = false → l = A ++ R
  len : A.length = place S l k
theorem parted (S : Sh α) (l : List α) (k : List UInt8) (h : rises S l = true) : ∃ A R, Parted S l k A R := by
  have hp := (rises_pw S l).1 h
  have hA : ∀ a ∈ l.take (place S l k), less (S.key a) k = true := fun a ha => by
    unfold place at ha
    rw [← List.prefix_iff_eq_take.1 (List.takeWhile_prefix _)] at ha
    exact mem_tw (fun x => less (S.key x) k) l a ha
  have hlen : (l.take (place S l k)).length = place S l k := by rw [List.length_take]; have := place_le S l k; omega
  have hnl : ∀ y, l[place S l k]? = some y → less (S.key y) k = false := fun y hy => at_tw (fun x => less (S.key x) k) l y hy
  cases ht : there S l k with
  | true =>
    obtain ⟨y, hy, hk, hlt⟩ := there_at S l k ht
    have hd : l.drop (place S l k) = y :: l.drop (place S l k + 1) := by
      rw [List.drop_eq_getElem_cons hlt]
      obtain ⟨_, rfl⟩ := List.getElem?_eq_some_iff.1 hy
      rfl
    have hl : l = l.take (place S l k) ++ y :: l.drop (place S l k + 1) := by rw [← hd, List.take_append_drop]
    rw [hl, List.pairwise_append, List.pairwise_cons] at hp
    refine ⟨_, l.drop (place S l k + 1), hA, fun r hr => ?_, hp.1, hp.2.1.2, fun _ => ⟨y, hl, hk⟩, fun h => (by rw [ht] at h; cases h), hlen⟩
    rw [← hk]; exact hp.2.1.1 r hr
  | false =>
    have hl : l = l.take (place S l k) ++ l.drop (place S l k) := (List.take_append_drop _ _).symm
    rw [hl, List.pairwise_append] at hp
    refine ⟨_, l.drop (place S l k), hA, fun r hr => ?_, hp.1, hp.2.1, fun h => (by rw [ht] at h; cases h), fun _ => hl, hlen⟩
    cases hR : l.drop (place S l k) with
    | nil => rw [hR] at hr; cases hr
    | cons y T =>
      have hy : l[place S l k]? = some y := by
        have : (l.drop (place S l k))[0]? = some y := by rw [hR]; rfl
        rwa [List.getElem?_drop, Nat.add_zero] at this
      have h1 := hnl y hy
      have h2 : less k (S.key y) = true := by
        cases h3 : less k (S.key y)
        · exfalso
          have := less_tri _ _ h1 h3
          unfold there at ht
          rw [hy] at ht
          simp [this] at ht
        · rfl
      rw [hR] at hr hp
      rcases List.mem_cons.1 hr with rfl | hr
      · exact h2
      · exact less_trans _ _ _ h2 ((List.pairwise_cons.1 hp.2.1).1 r hr)
theorem Parted.put {S : Sh α} {l : List α} {A R : List α} (x : α) (h : Parted S l (S.key x) A R) : putL S l x = A ++ x :: R := by
  have hl := h.len
  unfold putL
  cases ht : there S l (S.key x) with
  | true =>
    obtain ⟨y, hy, _⟩ := h.yes ht
    rw [if_pos rfl, ← hl]
    conv => lhs; rw [hy]
    rw [List.take_left, show A.length + 1 = (A ++ [y]).length by simp, show A ++ y :: R = (A ++ [y]) ++ R by simp, List.drop_left]
  | false =>
    have hy := h.no ht
    rw [if_neg (by simp), ← hl]
    conv => lhs; rw [hy]
    rw [List.take_left, List.drop_left]
theorem Parted.cut {S : Sh α} {l : List α} {k : List UInt8} {A R : List α} (h : Parted S l k A R) : cutL S l k = A ++ R := by
  have hl := h.len
  unfold cutL
  cases ht : there S l k with
  | true =>
    obtain ⟨y, hy, _⟩ := h.yes ht
    rw [if_pos rfl, ← hl]
    conv => lhs; rw [hy]
    rw [List.take_left, show A.length + 1 = (A ++ [y]).length by simp, show A ++ y :: R = (A ++ [y]) ++ R by simp, List.drop_left]
  | false => rw [if_neg (by simp)]; exact h.no ht
theorem lt_not (k : List UInt8) (u : List UInt8) (h : less k u = true) : less u k = false := less_asym _ _ h
/-- All that the law asks of a row into which a cell is put. -/
structure PutBack (S : Sh α) (l : List α) (x : α) : Prop where
  up : rises S (putL S l x) = true
  upc : rises S (cutL S l (S.key x)) = true
  at_ : (putL S l x)[place S (putL S l x) (S.key x)]? = some x
  there_ : there S (putL S l x) (S.key x) = true
  cut : cutL S (putL S l x) (S.key x) = cutL S l (S.key x)
  gone : there S (cutL S l (S.key x)) (S.key x) = false
  len : (putL S l x).length = (cutL S l (S.key x)).length + 1
  was : there S l (S.key x) = decide ((cutL S l (S.key x)).length < l.length)
theorem putBack (S : Sh α) (l : List α) (x : α) (h : rises S l = true) : PutBack S l x := by
  obtain ⟨A, R, P⟩ := parted S l (S.key x) h
  have hput := P.put x
  have hcut := P.cut
  have hself : less (S.key x) (S.key x) = false := less_self _
  have hpl : place S (A ++ x :: R) (S.key x) = A.length := place_app S _ A x R P.lo hself
  have hat : (A ++ x :: R)[A.length]? = some x := by rw [List.getElem?_append_right (Nat.le_refl _), Nat.sub_self]; rfl
  have hth : there S (A ++ x :: R) (S.key x) = true := by unfold there; rw [hpl, hat]; simp
  have hAR : ∀ a ∈ A, ∀ r ∈ R, less (S.key a) (S.key r) = true := fun a ha r hr => less_trans _ _ _ (P.lo a ha) (P.hi r hr)
  have hup : rises S (A ++ x :: R) = true := by
    rw [rises_pw, List.pairwise_append, List.pairwise_cons]
    refine ⟨P.pa, ⟨P.hi, P.pr⟩, fun a ha b hb => ?_⟩
    rcases List.mem_cons.1 hb with rfl | hb
    · exact P.lo a ha
    · exact hAR a ha b hb
  have hupc : rises S (A ++ R) = true := by
    rw [rises_pw, List.pairwise_append]
    exact ⟨P.pa, P.pr, hAR⟩
  have hgone : there S (A ++ R) (S.key x) = false := by
    unfold there
    rw [place_end S _ A R P.lo (fun r hr => lt_not _ _ (P.hi r hr)), List.getElem?_append_right (Nat.le_refl _), Nat.sub_self]
    cases R with
    | nil => rfl
    | cons r R =>
      show decide (S.key r = S.key x) = false
      refine decide_eq_false fun he => ?_
      have := P.hi r (List.mem_cons_self)
      rw [he, less_self] at this
      cases this
  refine ⟨by rw [hput]; exact hup, by rw [hcut]; exact hupc, by rw [hput, hpl]; exact hat, by rw [hput]; exact hth, ?_, by rw [hcut]; exact hgone, by rw [hput, hcut]; simp [Nat.add_assoc], ?_⟩
  · rw [hput, hcut]
    unfold cutL
    rw [if_pos hth, hpl, List.take_left, show A.length + 1 = (A ++ [x]).length by simp, show A ++ x :: R = (A ++ [x]) ++ R by simp, List.drop_left]
  · rw [hcut]
    cases ht : there S l (S.key x) with
    | true =>
      obtain ⟨y, hy, _⟩ := P.yes ht
      rw [hy]; simp
    | false => rw [P.no ht]; simp
end Go.Proofs.Ytpkoehnjladpoaa.Sl
