/- Texts of one seat, merged. -/
import Derived.Test.YtdgcdekgleegbaaGreatS04
import Derived.Test.YtdgcdekgleegbaaGreatS15
import Derived.OwnWalk
import Derived.Test.YtdgcdekgleegbaaGreatS08
import Derived.Maps.AppendAt
import Derived.Laws.AppendOwnNone
import Derived.Lib.AppendZerosOnto
import Derived.Lib.Walk
import Derived.Deep.LoopGhost
set_option maxRecDepth 100000
set_option maxHeartbeats 4000000
set_option linter.unusedVariables false
/- Cells that stay as they were, at other lengths. -/
namespace Go.Proofs.YtdgcdekgleegbaaGreat
open Go.RowKit
theorem step1 {w w1 w2 : World} {B : Nat} {p0 : Addr} {x0 : Value} (hB : B ≤ w.heap.size) (H : w1.cell? p0 = some x0 ∧ Below B w w1) (hb : Below w1.heap.size w1 w2) : w2.cell? p0 = some x0 ∧ Below B w w2 := by
  obtain ⟨h0, hq⟩ := H
  exact ⟨(hb.cell (p := p0) (World.block_lt_of_cell? _ _ h0)).trans h0, hq.trans (hb.mono (Nat.le_trans hB hq.size))⟩
theorem last1 {w w1 : World} {B : Nat} {p0 : Addr} {x0 : Value} (H : w1.cell? p0 = some x0 ∧ Below B w w1) : Below B w w1 := H.2
theorem step3 {w w1 w2 : World} {B : Nat} {p0 p1 p2 : Addr} {x0 x1 x2 : Value} (hB : B ≤ w.heap.size) (H : w1.cell? p0 = some x0 ∧ w1.cell? p1 = some x1 ∧ w1.cell? p2 = some x2 ∧ Below B w w1) (hb : Below w1.heap.size w1 w2) : w2.cell? p0 = some x0 ∧ w2.cell? p1 = some x1 ∧ w2.cell? p2 = some x2 ∧ Below B w w2 := by
  obtain ⟨h0, h1, h2, hq⟩ := H
  exact ⟨(hb.cell (p := p0) (World.block_lt_of_cell? _ _ h0)).trans h0, (hb.cell (p := p1) (World.block_lt_of_cell? _ _ h1)).trans h1, (hb.cell (p := p2) (World.block_lt_of_cell? _ _ h2)).trans h2, hq.trans (hb.mono (Nat.le_trans hB hq.size))⟩
theorem last3 {w w1 : World} {B : Nat} {p0 p1 p2 : Addr} {x0 x1 x2 : Value} (H : w1.cell? p0 = some x0 ∧ w1.cell? p1 = some x1 ∧ w1.cell? p2 = some x2 ∧ Below B w w1) : Below B w w1 := H.2.2.2
theorem step5 {w w1 w2 : World} {B : Nat} {p0 p1 p2 p3 p4 : Addr} {x0 x1 x2 x3 x4 : Value} (hB : B ≤ w.heap.size) (H : w1.cell? p0 = some x0 ∧ w1.cell? p1 = some x1 ∧ w1.cell? p2 = some x2 ∧ w1.cell? p3 = some x3 ∧ w1.cell? p4 = some x4 ∧ Below B w w1) (hb : Below w1.heap.size w1 w2) : w2.cell? p0 = some x0 ∧ w2.cell? p1 = some x1 ∧ w2.cell? p2 = some x2 ∧ w2.cell? p3 = some x3 ∧ w2.cell? p4 = some x4 ∧ Below B w w2 := by
  obtain ⟨h0, h1, h2, h3, h4, hq⟩ := H
  exact ⟨(hb.cell (p := p0) (World.block_lt_of_cell? _ _ h0)).trans h0, (hb.cell (p := p1) (World.block_lt_of_cell? _ _ h1)).trans h1, (hb.cell (p := p2) (World.block_lt_of_cell? _ _ h2)).trans h2, (hb.cell (p := p3) (World.block_lt_of_cell? _ _ h3)).trans h3, (hb.cell (p := p4) (World.block_lt_of_cell? _ _ h4)).trans h4, hq.trans (hb.mono (Nat.le_trans hB hq.size))⟩
theorem last5 {w w1 : World} {B : Nat} {p0 p1 p2 p3 p4 : Addr} {x0 x1 x2 x3 x4 : Value} (H : w1.cell? p0 = some x0 ∧ w1.cell? p1 = some x1 ∧ w1.cell? p2 = some x2 ∧ w1.cell? p3 = some x3 ∧ w1.cell? p4 = some x4 ∧ Below B w w1) : Below B w w1 := H.2.2.2.2.2
theorem step7 {w w1 w2 : World} {B : Nat} {p0 p1 p2 p3 p4 p5 p6 : Addr} {x0 x1 x2 x3 x4 x5 x6 : Value} (hB : B ≤ w.heap.size) (H : w1.cell? p0 = some x0 ∧ w1.cell? p1 = some x1 ∧ w1.cell? p2 = some x2 ∧ w1.cell? p3 = some x3 ∧ w1.cell? p4 = some x4 ∧ w1.cell? p5 = some x5 ∧ w1.cell? p6 = some x6 ∧ Below B w w1) (hb : Below w1.heap.size w1 w2) : w2.cell? p0 = some x0 ∧ w2.cell? p1 = some x1 ∧ w2.cell? p2 = some x2 ∧ w2.cell? p3 = some x3 ∧ w2.cell? p4 = some x4 ∧ w2.cell? p5 = some x5 ∧ w2.cell? p6 = some x6 ∧ Below B w w2 := by
  obtain ⟨h0, h1, h2, h3, h4, h5, h6, hq⟩ := H
  exact ⟨(hb.cell (p := p0) (World.block_lt_of_cell? _ _ h0)).trans h0, (hb.cell (p := p1) (World.block_lt_of_cell? _ _ h1)).trans h1, (hb.cell (p := p2) (World.block_lt_of_cell? _ _ h2)).trans h2, (hb.cell (p := p3) (World.block_lt_of_cell? _ _ h3)).trans h3, (hb.cell (p := p4) (World.block_lt_of_cell? _ _ h4)).trans h4, (hb.cell (p := p5) (World.block_lt_of_cell? _ _ h5)).trans h5, (hb.cell (p := p6) (World.block_lt_of_cell? _ _ h6)).trans h6, hq.trans (hb.mono (Nat.le_trans hB hq.size))⟩
theorem last7 {w w1 : World} {B : Nat} {p0 p1 p2 p3 p4 p5 p6 : Addr} {x0 x1 x2 x3 x4 x5 x6 : Value} (H : w1.cell? p0 = some x0 ∧ w1.cell? p1 = some x1 ∧ w1.cell? p2 = some x2 ∧ w1.cell? p3 = some x3 ∧ w1.cell? p4 = some x4 ∧ w1.cell? p5 = some x5 ∧ w1.cell? p6 = some x6 ∧ Below B w w1) : Below B w w1 := H.2.2.2.2.2.2.2
theorem step9 {w w1 w2 : World} {B : Nat} {p0 p1 p2 p3 p4 p5 p6 p7 p8 : Addr} {x0 x1 x2 x3 x4 x5 x6 x7 x8 : Value} (hB : B ≤ w.heap.size) (H : w1.cell? p0 = some x0 ∧ w1.cell? p1 = some x1 ∧ w1.cell? p2 = some x2 ∧ w1.cell? p3 = some x3 ∧ w1.cell? p4 = some x4 ∧ w1.cell? p5 = some x5 ∧ w1.cell? p6 = some x6 ∧ w1.cell? p7 = some x7 ∧ w1.cell? p8 = some x8 ∧ Below B w w1) (hb : Below w1.heap.size w1 w2) : w2.cell? p0 = some x0 ∧ w2.cell? p1 = some x1 ∧ w2.cell? p2 = some x2 ∧ w2.cell? p3 = some x3 ∧ w2.cell? p4 = some x4 ∧ w2.cell? p5 = some x5 ∧ w2.cell? p6 = some x6 ∧ w2.cell? p7 = some x7 ∧ w2.cell? p8 = some x8 ∧ Below B w w2 := by
  obtain ⟨h0, h1, h2, h3, h4, h5, h6, h7, h8, hq⟩ := H
  exact ⟨(hb.cell (p := p0) (World.block_lt_of_cell? _ _ h0)).trans h0, (hb.cell (p := p1) (World.block_lt_of_cell? _ _ h1)).trans h1, (hb.cell (p := p2) (World.block_lt_of_cell? _ _ h2)).trans h2, (hb.cell (p := p3) (World.block_lt_of_cell? _ _ h3)).trans h3, (hb.cell (p := p4) (World.block_lt_of_cell? _ _ h4)).trans h4, (hb.cell (p := p5) (World.block_lt_of_cell? _ _ h5)).trans h5, (hb.cell (p := p6) (World.block_lt_of_cell? _ _ h6)).trans h6, (hb.cell (p := p7) (World.block_lt_of_cell? _ _ h7)).trans h7, (hb.cell (p := p8) (World.block_lt_of_cell? _ _ h8)).trans h8, hq.trans (hb.mono (Nat.le_trans hB hq.size))⟩
theorem last9 {w w1 : World} {B : Nat} {p0 p1 p2 p3 p4 p5 p6 p7 p8 : Addr} {x0 x1 x2 x3 x4 x5 x6 x7 x8 : Value} (H : w1.cell? p0 = some x0 ∧ w1.cell? p1 = some x1 ∧ w1.cell? p2 = some x2 ∧ w1.cell? p3 = some x3 ∧ w1.cell? p4 = some x4 ∧ w1.cell? p5 = some x5 ∧ w1.cell? p6 = some x6 ∧ w1.cell? p7 = some x7 ∧ w1.cell? p8 = some x8 ∧ Below B w w1) : Below B w w1 := H.2.2.2.2.2.2.2.2.2
theorem step10 {w w1 w2 : World} {B : Nat} {p0 p1 p2 p3 p4 p5 p6 p7 p8 p9 : Addr} {x0 x1 x2 x3 x4 x5 x6 x7 x8 x9 : Value} (hB : B ≤ w.heap.size) (H : w1.cell? p0 = some x0 ∧ w1.cell? p1 = some x1 ∧ w1.cell? p2 = some x2 ∧ w1.cell? p3 = some x3 ∧ w1.cell? p4 = some x4 ∧ w1.cell? p5 = some x5 ∧ w1.cell? p6 = some x6 ∧ w1.cell? p7 = some x7 ∧ w1.cell? p8 = some x8 ∧ w1.cell? p9 = some x9 ∧ Below B w w1) (hb : Below w1.heap.size w1 w2) : w2.cell? p0 = some x0 ∧ w2.cell? p1 = some x1 ∧ w2.cell? p2 = some x2 ∧ w2.cell? p3 = some x3 ∧ w2.cell? p4 = some x4 ∧ w2.cell? p5 = some x5 ∧ w2.cell? p6 = some x6 ∧ w2.cell? p7 = some x7 ∧ w2.cell? p8 = some x8 ∧ w2.cell? p9 = some x9 ∧ Below B w w2 := by
  obtain ⟨h0, h1, h2, h3, h4, h5, h6, h7, h8, h9, hq⟩ := H
  exact ⟨(hb.cell (p := p0) (World.block_lt_of_cell? _ _ h0)).trans h0, (hb.cell (p := p1) (World.block_lt_of_cell? _ _ h1)).trans h1, (hb.cell (p := p2) (World.block_lt_of_cell? _ _ h2)).trans h2, (hb.cell (p := p3) (World.block_lt_of_cell? _ _ h3)).trans h3, (hb.cell (p := p4) (World.block_lt_of_cell? _ _ h4)).trans h4, (hb.cell (p := p5) (World.block_lt_of_cell? _ _ h5)).trans h5, (hb.cell (p := p6) (World.block_lt_of_cell? _ _ h6)).trans h6, (hb.cell (p := p7) (World.block_lt_of_cell? _ _ h7)).trans h7, (hb.cell (p := p8) (World.block_lt_of_cell? _ _ h8)).trans h8, (hb.cell (p := p9) (World.block_lt_of_cell? _ _ h9)).trans h9, hq.trans (hb.mono (Nat.le_trans hB hq.size))⟩
theorem last10 {w w1 : World} {B : Nat} {p0 p1 p2 p3 p4 p5 p6 p7 p8 p9 : Addr} {x0 x1 x2 x3 x4 x5 x6 x7 x8 x9 : Value} (H : w1.cell? p0 = some x0 ∧ w1.cell? p1 = some x1 ∧ w1.cell? p2 = some x2 ∧ w1.cell? p3 = some x3 ∧ w1.cell? p4 = some x4 ∧ w1.cell? p5 = some x5 ∧ w1.cell? p6 = some x6 ∧ w1.cell? p7 = some x7 ∧ w1.cell? p8 = some x8 ∧ w1.cell? p9 = some x9 ∧ Below B w w1) : Below B w w1 := H.2.2.2.2.2.2.2.2.2.2
theorem step16 {w w1 w2 : World} {B : Nat} {p0 p1 p2 p3 p4 p5 p6 p7 p8 p9 p10 p11 p12 p13 p14 p15 : Addr} {x0 x1 x2 x3 x4 x5 x6 x7 x8 x9 x10 x11 x12 x13 x14 x15 : Value} (hB : B ≤ w.heap.size) (H : w1.cell? p0 = some x0 ∧ w1.cell? p1 = some x1 ∧ w1.cell? p2 = some x2 ∧ w1.cell? p3 = some x3 ∧ w1.cell? p4 = some x4 ∧ w1.cell? p5 = some x5 ∧ w1.cell? p6 = some x6 ∧ w1.cell? p7 = some x7 ∧ w1.cell? p8 = some x8 ∧ w1.cell? p9 = some x9 ∧ w1.cell? p10 = some x10 ∧ w1.cell? p11 = some x11 ∧ w1.cell? p12 = some x12 ∧ w1.cell? p13 = some x13 ∧ w1.cell? p14 = some x14 ∧ w1.cell? p15 = some x15 ∧ Below B w w1) (hb : Below w1.heap.size w1 w2) : w2.cell? p0 = some x0 ∧ w2.cell? p1 = some x1 ∧ w2.cell? p2 = some x2 ∧ w2.cell? p3 = some x3 ∧ w2.cell? p4 = some x4 ∧ w2.cell? p5 = some x5 ∧ w2.cell? p6 = some x6 ∧ w2.cell? p7 = some x7 ∧ w2.cell? p8 = some x8 ∧ w2.cell? p9 = some x9 ∧ w2.cell? p10 = some x10 ∧ w2.cell? p11 = some x11 ∧ w2.cell? p12 = some x12 ∧ w2.cell? p13 = some x13 ∧ w2.cell? p14 = some x14 ∧ w2.cell? p15 = some x15 ∧ Below B w w2 := by
  obtain ⟨h0, h1, h2, h3, h4, h5, h6, h7, h8, h9, h10, h11, h12, h13, h14, h15, hq⟩ := H
  exact ⟨(hb.cell (p := p0) (World.block_lt_of_cell? _ _ h0)).trans h0, (hb.cell (p := p1) (World.block_lt_of_cell? _ _ h1)).trans h1, (hb.cell (p := p2) (World.block_lt_of_cell? _ _ h2)).trans h2, (hb.cell (p := p3) (World.block_lt_of_cell? _ _ h3)).trans h3, (hb.cell (p := p4) (World.block_lt_of_cell? _ _ h4)).trans h4, (hb.cell (p := p5) (World.block_lt_of_cell? _ _ h5)).trans h5, (hb.cell (p := p6) (World.block_lt_of_cell? _ _ h6)).trans h6, (hb.cell (p := p7) (World.block_lt_of_cell? _ _ h7)).trans h7, (hb.cell (p := p8) (World.block_lt_of_cell? _ _ h8)).trans h8, (hb.cell (p := p9) (World.block_lt_of_cell? _ _ h9)).trans h9, (hb.cell (p := p10) (World.block_lt_of_cell? _ _ h10)).trans h10, (hb.cell (p := p11) (World.block_lt_of_cell? _ _ h11)).trans h11, (hb.cell (p := p12) (World.block_lt_of_cell? _ _ h12)).trans h12, (hb.cell (p := p13) (World.block_lt_of_cell? _ _ h13)).trans h13, (hb.cell (p := p14) (World.block_lt_of_cell? _ _ h14)).trans h14, (hb.cell (p := p15) (World.block_lt_of_cell? _ _ h15)).trans h15, hq.trans (hb.mono (Nat.le_trans hB hq.size))⟩
theorem last16 {w w1 : World} {B : Nat} {p0 p1 p2 p3 p4 p5 p6 p7 p8 p9 p10 p11 p12 p13 p14 p15 : Addr} {x0 x1 x2 x3 x4 x5 x6 x7 x8 x9 x10 x11 x12 x13 x14 x15 : Value} (H : w1.cell? p0 = some x0 ∧ w1.cell? p1 = some x1 ∧ w1.cell? p2 = some x2 ∧ w1.cell? p3 = some x3 ∧ w1.cell? p4 = some x4 ∧ w1.cell? p5 = some x5 ∧ w1.cell? p6 = some x6 ∧ w1.cell? p7 = some x7 ∧ w1.cell? p8 = some x8 ∧ w1.cell? p9 = some x9 ∧ w1.cell? p10 = some x10 ∧ w1.cell? p11 = some x11 ∧ w1.cell? p12 = some x12 ∧ w1.cell? p13 = some x13 ∧ w1.cell? p14 = some x14 ∧ w1.cell? p15 = some x15 ∧ Below B w w1) : Below B w w1 := H.2.2.2.2.2.2.2.2.2.2.2.2.2.2.2.2
end Go.Proofs.YtdgcdekgleegbaaGreat
/- The contracts of the law's From, To and same. -/
namespace Go.Proofs.YtdgcdekgleegbaaGreat
open Go.RowKit
open Sl (Cl Kd Nd Rn)
set_option maxHeartbeats 2000000 in
set_option maxRecDepth 100000 in
theorem kidsOwn_any (v : Value) (l : List Cl) (hll : l.length ≤ 100000) (w : World) (hv : SlC w v l) :
    Calls Tryz.prog 64 #[v] w (OwnK (l.map toK) w) := by
  obtain ⟨i0, hi, hz0, hz1, hz2⟩ := info_parts info47
  obtain ⟨a, b, o, c, rfl, ha, hx⟩ := hv
  have HX := Lib.hid hx
  have HA := Lib.hid ha
  clear ha hx
  go_enter Tryz.func64, Tryz.ntmps64
  go_wp2
  go_loopg [3, 8] l.length (fun n s i wr => ∃ m : List Kd, m.length ≤ l.length ∧ n = l.length - m.length ∧ i = .int .i64 m.length ∧ Hid (m = (l.take m.length).map toK) ∧ Hid (wr.ownsRow w.heap.size 135 2 s m.length (m.flatMap cellsK)) ∧ Hid (Below w.heap.size w wr))
  case atStart => exact ⟨[], Nat.zero_le _, rfl, rfl, rfl, World.ownsRow_nil _ _ _ _, Below.refl _ _⟩
  case round =>
    obtain ⟨m, hk, rfl, rfl, HM, HO, HB⟩ := hrel
    by_cases hlt : m.length < l.length
    · obtain ⟨x, hx⟩ := take_some l m.length hlt
      obtain ⟨e0, e1, e2, e3⟩ := HX.out m.length x hx
      have hblt : b < w.heap.size := World.block_lt_of_cell? _ _ e0
      have d0 := (HB.out.cell (p := ⟨b, o + m.length * 4, none⟩) hblt).trans e0
      have d1 := (HB.out.cell (p := ⟨b, o + m.length * 4 + 1, none⟩) hblt).trans e1
      have d2 := (HB.out.cell (p := ⟨b, o + m.length * 4 + 2, none⟩) hblt).trans e2
      have d3 := (HB.out.cell (p := ⟨b, o + m.length * 4 + 3, none⟩) hblt).trans e3
      obtain rfl : a = some ⟨b, o, none⟩ := by
        rcases HA.out with h | h
        · rw [h] at hlt; cases hlt
        · exact h
      have HS := Lib.hid (map_take_snoc toK l m.length x hx)
      have hBs := HB.out.size
      clear e0 e1 e2 e3 hx
      go_wp2_with (at_builtin; refine wpList_append_own _ rfl _ _ 69 rfl w.heap.size 135 i0 _ 2 24 Tryz.underlying69 hi hz0 hz1 hz2 rfl (by decide) _ m.length _ rfl ((HO.out.alloc _).alloc _) ⟨wr.heap.size + 1, 0, none⟩ 1 1 (cellsK (toK x)) rfl rfl ?p1 ?p2 ?p3 ?p4 ?p5 ?_)
      case p1 => exact fun _ _ h => h
      case p2 => exact cellsK_one _
      case p3 => unfold maxLen; omega
      case p4 => omega
      case p5 => omega
      intro v' w4 hown' hgrow _
      have HO4 : Hid (w4.ownsRow w.heap.size 135 2 v' (m ++ [toK x]).length ((m ++ [toK x]).flatMap cellsK)) := by
        show w4.ownsRow _ _ _ _ _ _
        rw [List.flatMap_append, List.length_append]; simpa using hown'
      have HB4 : Hid (Below w.heap.size w w4) := ((HB.out.alloc hBs _).alloc (by simp; omega) _).grown hgrow (by simp; omega) (fun g hg => (HO.out.lt g hg).1)
      clear hown' hgrow
      go_wp2
      go_roundg (l.length - (m.length + 1))
      case measure => omega
      case rel =>
        refine ⟨m ++ [toK x], by rw [List.length_append]; exact hlt, by rw [List.length_append]; rfl, by rw [List.length_append]; go_num, ?_, HO4, HB4⟩
        show _ = _
        rw [List.length_append, show m.length + [toK x].length = m.length + 1 from rfl, HS.out, ← HM.out]
    · have hkk : m.length = l.length := by omega
      have hm : m = l.map toK := by
        have := HM.out
        rw [hkk, List.take_length] at this
        exact this
      have HMM := Lib.hid hm
      have HSK := Lib.hid (HO.out)
      clear hm hkk
      go_wp2
      go_ret
      exact ⟨_, rfl, (show RowK _ _ _ (l.map toK) by rw [← HMM.out]; exact HSK.out), HB.out⟩
set_option maxHeartbeats 2000000 in
set_option maxRecDepth 100000 in
theorem cellsOwn_any (v : Value) (l : List Kd) (hll : l.length ≤ 100000) (w : World) (hv : SlK w v l) :
    Calls Tryz.prog 105 #[v] w (OwnC (l.map toC) w) := by
  obtain ⟨i0, hi, hz0, hz1, hz2⟩ := info_parts info42
  obtain ⟨a, b, o, c, rfl, ha, hx⟩ := hv
  have HX := Lib.hid hx
  have HA := Lib.hid ha
  clear ha hx
  go_enter Tryz.func105, Tryz.ntmps105
  go_wp2
  go_loopg [3, 8] l.length (fun n s i wr => ∃ m : List Cl, m.length ≤ l.length ∧ n = l.length - m.length ∧ i = .int .i64 m.length ∧ Hid (m = (l.take m.length).map toC) ∧ Hid (wr.ownsRow w.heap.size 32 4 s m.length (m.flatMap cellsC)) ∧ Hid (Below w.heap.size w wr))
  case atStart => exact ⟨[], Nat.zero_le _, rfl, rfl, rfl, World.ownsRow_nil _ _ _ _, Below.refl _ _⟩
  case round =>
    obtain ⟨m, hk, rfl, rfl, HM, HO, HB⟩ := hrel
    by_cases hlt : m.length < l.length
    · obtain ⟨x, hx⟩ := take_some l m.length hlt
      obtain ⟨e0, e1⟩ := HX.out m.length x hx
      have hblt : b < w.heap.size := World.block_lt_of_cell? _ _ e0
      have d0 := (HB.out.cell (p := ⟨b, o + m.length * 2, none⟩) hblt).trans e0
      have d1 := (HB.out.cell (p := ⟨b, o + m.length * 2 + 1, none⟩) hblt).trans e1
      obtain rfl : a = some ⟨b, o, none⟩ := by
        rcases HA.out with h | h
        · rw [h] at hlt; cases hlt
        · exact h
      have HS := Lib.hid (map_take_snoc toC l m.length x hx)
      have hBs := HB.out.size
      clear e0 e1 hx
      go_wp2_with (at_builtin; refine wpList_append_own _ rfl _ _ 29 rfl w.heap.size 32 i0 _ 4 40 Tryz.underlying29 hi hz0 hz1 hz2 rfl (by decide) _ m.length _ rfl ((HO.out.alloc _).alloc _) ⟨wr.heap.size + 1, 0, none⟩ 1 1 (cellsC (toC x)) rfl rfl ?p1 ?p2 ?p3 ?p4 ?p5 ?_)
      case p1 => exact fun _ _ h => h
      case p2 => exact cellsC_one _
      case p3 => unfold maxLen; omega
      case p4 => omega
      case p5 => omega
      intro v' w4 hown' hgrow _
      have HO4 : Hid (w4.ownsRow w.heap.size 32 4 v' (m ++ [toC x]).length ((m ++ [toC x]).flatMap cellsC)) := by
        show w4.ownsRow _ _ _ _ _ _
        rw [List.flatMap_append, List.length_append]; simpa using hown'
      have HB4 : Hid (Below w.heap.size w w4) := ((HB.out.alloc hBs _).alloc (by simp; omega) _).grown hgrow (by simp; omega) (fun g hg => (HO.out.lt g hg).1)
      clear hown' hgrow
      go_wp2
      go_roundg (l.length - (m.length + 1))
      case measure => omega
      case rel =>
        refine ⟨m ++ [toC x], by rw [List.length_append]; exact hlt, by rw [List.length_append]; rfl, by rw [List.length_append]; go_num, ?_, HO4, HB4⟩
        show _ = _
        rw [List.length_append, show m.length + [toC x].length = m.length + 1 from rfl, HS.out, ← HM.out]
    · have hkk : m.length = l.length := by omega
      have hm : m = l.map toC := by
        have := HM.out
        rw [hkk, List.take_length] at this
        exact this
      have HMM := Lib.hid hm
      have HSK := Lib.hid (HO.out)
      clear hm hkk
      go_wp2
      go_ret
      exact ⟨_, rfl, (show RowC _ _ _ (l.map toC) by rw [← HMM.out]; exact HSK.out), HB.out⟩
theorem from_any (lf : Bool) (v : Value) (l : List Cl) (w : World) (hv : SlC w v l) (hc : Cap v) (hl : l.length ≤ 100000) :
    Calls Tryz.prog 27 #[.bool lf, v] w (RetN (Sl.fromN lf l) w) := by
  have HKO := Lib.hid (fun W (hW : Below w.heap.size w W) => kidsOwn_any v l hl W (hv.below hW))
  have HV := Lib.hid hv
  have HC := Lib.hid hc
  obtain ⟨a, n, c, _, _, _⟩ := hc
  have HB : Hid (∀ o1, Below w.heap.size w (w.alloc o1)) := fun o1 => (Below.refl _ _).alloc (Nat.le_refl _) _
  have HZ := Lib.hid (Z3.new w)
  clear hv
  cases lf with
  | true =>
    go_enter Tryz.func27, Tryz.ntmps27
    go_wp2
    refine bodyPost_ret_by (v := ndV true (.slice a n c) (.slice none 0 0)) ?_ rfl ?_
    · simp [ndV, results, Tryz.results27, go_sem]
    · refine ⟨_, rfl, ⟨.slice a n c, .slice none 0 0, rfl, HV.out.below ?_, HC.out, SlK.nil _, cap_nil⟩, ?_⟩
      all_goals exact (HB.out _)
  | false =>
    go_enter Tryz.func27, Tryz.ntmps27
    go_wp2_with (go_at_call 64; refine (HKO.out _ (HB.out _)).mono ?_; rintro e w1 ⟨v1, rfl, hr1, hb1⟩; obtain ⟨a5, n5, c5, ha5, hc5, hn5⟩ := hr1.cap; have HR1 := Lib.hid hr1; have HB1 := Lib.hid ((HB.out _).trans (hb1.mono (HB.out _).size)); have HZ1 := HZ.out.below hb1; have z0 := HZ1.z0; have z1 := HZ1.z1; have z2 := HZ1.z2; have z3 := HZ1.f0; have z4 := HZ1.f1; have z5 := HZ1.f2; clear hr1 hb1 HZ1)
    refine bodyPost_ret_by (v := ndV false (.slice none 0 0) (.slice a5 n5 c5)) ?_ rfl ?_
    · simp [ndV, results, Tryz.results27, go_sem, z0, z1, z2]
    · have hq : w.heap.size < (w.alloc (.cells #[.bool false, .slice none 0 0, .slice none 0 0] 71)).heap.size := by simp
      refine ⟨_, rfl, ⟨.slice none 0 0, .slice a5 n5 c5, rfl, SlC.nil _, cap_nil, (((HR1.out.set hq _).set hq _).set hq _).sl, ⟨_, _, _, ha5, hc5, hn5⟩⟩, ((HB1.out.setCell (Nat.le_refl _) _).setCell (Nat.le_refl _) _).setCell (Nat.le_refl _) _⟩
/-- An empty box of the document's node. -/
structure Z2 (w : World) (g : Nat) : Prop where
  z0 : w.cell? ⟨g, 0, none⟩ = some (.bool false)
  z1 : w.cell? ⟨g, 1, none⟩ = some (.slice none 0 0)
  f0 : w.frozen? ⟨g, 0, none⟩ = false
  f1 : w.frozen? ⟨g, 1, none⟩ = false
theorem Z2.lt {w : World} {g : Nat} (h : Z2 w g) : g < w.heap.size := World.block_lt_of_cell? _ _ h.z0
theorem Z2.below {w w' : World} {g : Nat} (h : Z2 w g) (hb : Below w.heap.size w w') : Z2 w' g :=
  ⟨(hb.cell (p := ⟨g, 0, none⟩) h.lt).trans h.z0, (hb.cell (p := ⟨g, 1, none⟩) h.lt).trans h.z1,
   (hb.frozen (p := ⟨g, 0, none⟩) h.lt).trans h.f0, (hb.frozen (p := ⟨g, 1, none⟩) h.lt).trans h.f1⟩
theorem Z2.new (w : World) : Z2 (w.alloc (.cells #[.bool false, .slice none 0 0] 97)) w.heap.size := by
  constructor <;> simp
theorem to_any (v : Value) (n : Nd) (w : World) (hv : NdV w v n) (hl : n.ks.length ≤ 100000) :
    Calls Tryz.prog 62 #[v] w (RetR (Sl.toR n) w) := by
  obtain ⟨vc, vk, rfl, hc, hcc, hk, hkk⟩ := hv
  have HKO := Lib.hid (fun W (hW : Below w.heap.size w W) => cellsOwn_any vk n.ks hl W (hk.below hW))
  have HV := Lib.hid hc
  have HC := Lib.hid hcc
  unfold ndV
  obtain ⟨a, m, c, _, _, _⟩ := hcc
  obtain ⟨a', m', c', _, _, _⟩ := hkk
  have HB : Hid (∀ o1 o2, Below w.heap.size w ((w.alloc o1).alloc o2)) := fun o1 o2 => ((Below.refl _ _).alloc (Nat.le_refl _) _).alloc (by simp) _
  have HZ : Hid (∀ o1, Z2 ((w.alloc o1).alloc (.cells #[.bool false, .slice none 0 0] 97)) (w.heap.size + 1)) := fun o1 => by
    have := Z2.new (w.alloc o1)
    rwa [show (w.alloc o1).heap.size = w.heap.size + 1 by simp] at this
  clear hc hk
  obtain ⟨lf, cs, ks⟩ := n
  cases lf with
  | true =>
    go_enter Tryz.func62, Tryz.ntmps62
    go_wp2
    refine bodyPost_ret_by (v := rnV true (.slice a m c)) ?_ rfl ?_
    · simp [rnV, results, Tryz.results62, go_sem]
    · refine ⟨_, rfl, ⟨.slice a m c, rfl, HV.out.below ?_, HC.out⟩, ?_⟩
      all_goals exact (HB.out _ _)
  | false =>
    go_enter Tryz.func62, Tryz.ntmps62
    go_wp2_with (go_at_call 105; refine (HKO.out _ (HB.out _ _)).mono ?_; rintro e w1 ⟨v1, rfl, hr1, hb1⟩; obtain ⟨a5, n5, c5, ha5, hc5, hn5⟩ := hr1.cap; have HR1 := Lib.hid hr1; have HB1 := Lib.hid ((HB.out _ _).trans (hb1.mono (HB.out _ _).size)); have HZ1 := (HZ.out _).below hb1; have z0 := HZ1.z0; have z1 := HZ1.z1; have z3 := HZ1.f0; have z4 := HZ1.f1; clear hr1 hb1 HZ1)
    refine bodyPost_ret_by (v := rnV false (.slice a5 n5 c5)) ?_ rfl ?_
    · simp [rnV, results, Tryz.results62, go_sem, z0, z1]
    · have hq : ∀ o1 o2, w.heap.size + 1 < ((w.alloc o1).alloc o2).heap.size := by intro o1 o2; simp
      refine ⟨_, rfl, ⟨.slice a5 n5 c5, rfl, ((HR1.out.set (hq _ _) _).set (hq _ _) _).sl, ⟨_, _, _, ha5, hc5, hn5⟩⟩, (HB1.out.setCell (by show _ ≤ _; simp) _).setCell (by show _ ≤ _; simp) _⟩
end Go.Proofs.YtdgcdekgleegbaaGreat
/- append of a row of cells to a row of one's own: as a run equation. -/
namespace Go.Proofs.YtdgcdekgleegbaaGreat
open Go.RowKit
open Sl (Cl Kd)
theorem appC (w : World) (B : Nat) (u v : Value) (l m : List Cl) (ty : TypeId) (hB : B ≤ w.heap.size) (hu : RowC w B u l) (hv : SlC w v m) (hc : Cap v) (hl : l.length ≤ 200000) (hm : m.length ≤ 200000) :
    ∃ v' w', (Builtin.append_ #[29, 29] ty #[u, v]).run Tryz.prog w = .ok v' w' ∧ RowC w' B v' (l ++ m) ∧ w.grownBy w' u.ownBlock ∧ Below B w w' := by
  obtain ⟨i0, hi, hz0, hz1, hz2⟩ := info_parts info42
  obtain ⟨a, b, o, c, rfl, ha, hx⟩ := hv
  cases a with
  | none =>
    have hc0 : c = 0 := by cases hc with | mk _ _ _ _ _ h0 => exact h0 rfl
    have hm0 : m = [] := by
      rcases ha with h | h
      · exact h
      · cases h
    subst hc0 hm0
    refine ⟨u, w, run_append_owned_none (P := Tryz.prog) (w := w) B 29 ty 32 i0 4 Tryz.underlying29 hi u l.length (l.flatMap cellsC) hu, by rw [List.append_nil]; exact hu, ⟨rfl, rfl, rfl, Nat.le_refl _, fun _ _ _ => rfl⟩, Below.refl _ _⟩
  | some ad =>
    obtain ⟨v', w', hr, h2, h3, _, h5⟩ := run_append_own_at (P := Tryz.prog) w B 29 ty 32 i0 _ 4 40 Tryz.underlying29 hi hz0 hz1 hz2 rfl (by decide) u l.length (l.flatMap cellsC) hu ad m.length c (m.flatMap cellsC) (flat_len _ _ cellsC_len _) (by
      intro j y hj
      rcases ha with h | h
      · subst h; simp at hj
      · cases h
        exact SlC.flat hx j y hj) (flat_oneC _) (by unfold maxLen; omega) (by omega) hB
    refine ⟨v', w', hr, ?_, h3, (Below.refl _ w).grown h3 hB (fun k hk => (World.ownsRow.lt hu k hk).1)⟩
    show w'.ownsRow _ _ _ _ _ _
    rw [List.flatMap_append, List.length_append]; exact h2
end Go.Proofs.YtdgcdekgleegbaaGreat
/- The contract of the document's own Join. -/
namespace Go.Proofs.YtdgcdekgleegbaaGreat.Sl
def keyR (lf : Bool) (k : List UInt8) (l : List Cl) : List Cl := if lf then l else setC k l
def joinR (a : Rn) (k : List UInt8) (b : Rn) : Rn := ⟨a.leaf, a.l ++ keyR a.leaf k b.l⟩
theorem keyR_len (lf : Bool) (k : List UInt8) (l : List Cl) : (keyR lf k l).length = l.length := by
  unfold keyR; cases lf
  · exact setC_len k l
  · rfl
theorem keyR_true (k : List UInt8) (l : List Cl) : keyR true k l = l := rfl
theorem keyR_zero (k : List UInt8) (l : List Cl) (x : Cl) (h : l[0]? = some x) : (keyR false k l)[0]? = some ⟨k, x.val, x.chain, x.long⟩ := by
  cases l with
  | nil => simp at h
  | cons y t => simp at h; subst h; rfl
theorem keyR_succ (lf : Bool) (k : List UInt8) (l : List Cl) (j : Nat) (hj : j ≠ 0) : (keyR lf k l)[j]? = l[j]? := by
  cases lf
  · cases l with
    | nil => rfl
    | cons y t => obtain ⟨j, rfl⟩ : ∃ i, j = i + 1 := ⟨j - 1, by omega⟩; rfl
  · rfl
end Go.Proofs.YtdgcdekgleegbaaGreat.Sl
namespace Go.Proofs.YtdgcdekgleegbaaGreat
open Go.RowKit
open Sl (Cl Kd Nd Rn)
theorem z2At {w : World} {g : Nat} {b : Bool} {v : Value} (hg : w.heap.size = g) : (w.alloc (.cells #[.bool b, v] 97)).cell? ⟨g, 0, none⟩ = some (.bool b) ∧ (w.alloc (.cells #[.bool b, v] 97)).cell? ⟨g, 1, none⟩ = some v ∧ (w.alloc (.cells #[.bool b, v] 97)).frozen? ⟨g, 0, none⟩ = false ∧ (w.alloc (.cells #[.bool b, v] 97)).frozen? ⟨g, 1, none⟩ = false := by
  subst hg
  exact ⟨by simp, by simp, by simp, by simp⟩
theorem startR (w : World) (lf bl : Bool) (x y : Value) (W : World) (hW : W = (((w.alloc (.cells #[.bool lf, x] 97)).alloc (.cells #[.bool bl, y] 97)).alloc (.cells #[.bool false, .slice none 0 0] 97)).alloc (.cells #[.bool lf, .slice none 0 0] 97)) :
    W.heap.size = w.heap.size + 1 + 1 + 1 + 1 ∧ Below w.heap.size w W ∧ W.cell? ⟨w.heap.size, 0, none⟩ = some (.bool lf) ∧ W.cell? ⟨w.heap.size, 1, none⟩ = some x ∧ W.cell? ⟨w.heap.size + 1, 0, none⟩ = some (.bool bl) ∧ W.cell? ⟨w.heap.size + 1, 1, none⟩ = some y ∧ Z2 W (w.heap.size + 1 + 1) ∧
    W.cell? ⟨w.heap.size + 1 + 1 + 1, 0, none⟩ = some (.bool lf) ∧ W.cell? ⟨w.heap.size + 1 + 1 + 1, 1, none⟩ = some (.slice none 0 0) ∧ W.frozen? ⟨w.heap.size + 1 + 1 + 1, 0, none⟩ = false ∧ W.frozen? ⟨w.heap.size + 1 + 1 + 1, 1, none⟩ = false := by
  subst hW
  have s1 : (w.alloc (.cells #[.bool lf, x] 97)).heap.size = w.heap.size + 1 := by simp
  have s2 : ((w.alloc (.cells #[.bool lf, x] 97)).alloc (.cells #[.bool bl, y] 97)).heap.size = w.heap.size + 1 + 1 := by simp
  have s3 : (((w.alloc (.cells #[.bool lf, x] 97)).alloc (.cells #[.bool bl, y] 97)).alloc (.cells #[.bool false, .slice none 0 0] 97)).heap.size = w.heap.size + 1 + 1 + 1 := by simp
  have b4 := (Below.refl _ (((w.alloc (.cells #[.bool lf, x] 97)).alloc (.cells #[.bool bl, y] 97)).alloc (.cells #[.bool false, .slice none 0 0] 97))).alloc (Nat.le_refl _) (.cells #[.bool lf, .slice none 0 0] 97)
  have b3 := ((Below.refl _ ((w.alloc (.cells #[.bool lf, x] 97)).alloc (.cells #[.bool bl, y] 97))).alloc (Nat.le_refl _) (.cells #[.bool false, .slice none 0 0] 97)).alloc (by simp <;> omega) (.cells #[.bool lf, .slice none 0 0] 97)
  have b2 := (((Below.refl _ (w.alloc (.cells #[.bool lf, x] 97))).alloc (Nat.le_refl _) (.cells #[.bool bl, y] 97)).alloc (by simp <;> omega) (.cells #[.bool false, .slice none 0 0] 97)).alloc (by simp <;> omega) (.cells #[.bool lf, .slice none 0 0] 97)
  have b1 := ((((Below.refl _ w).alloc (Nat.le_refl _) (.cells #[.bool lf, x] 97)).alloc (by simp <;> omega) (.cells #[.bool bl, y] 97)).alloc (by simp <;> omega) (.cells #[.bool false, .slice none 0 0] 97)).alloc (by simp <;> omega) (.cells #[.bool lf, .slice none 0 0] 97)
  obtain ⟨p0, p1, _, _⟩ := z2At (w := w) (b := lf) (v := x) rfl
  obtain ⟨q0, q1, _, _⟩ := z2At (w := w.alloc (.cells #[.bool lf, x] 97)) (b := bl) (v := y) s1
  have hz := Z2.new ((w.alloc (.cells #[.bool lf, x] 97)).alloc (.cells #[.bool bl, y] 97))
  rw [s2] at hz
  refine ⟨by simp, b1, (b2.cell (p := ⟨w.heap.size, 0, none⟩) (show w.heap.size < _ by omega)).trans p0, (b2.cell (p := ⟨w.heap.size, 1, none⟩) (show w.heap.size < _ by omega)).trans p1, (b3.cell (p := ⟨w.heap.size + 1, 0, none⟩) (show w.heap.size + 1 < _ by omega)).trans q0, (b3.cell (p := ⟨w.heap.size + 1, 1, none⟩) (show w.heap.size + 1 < _ by omega)).trans q1, hz.below b4, z2At s3⟩
/-- What holds of the world between two rounds of Join. -/
structure JoinI (w : World) (lf : Bool) (s : Value) (l : List Cl) (wr : World) : Prop where
  below : Below w.heap.size w wr
  leaf : wr.cell? ⟨w.heap.size, 0, none⟩ = some (.bool lf)
  res : Z2 wr (w.heap.size + 1 + 1)
  c0 : wr.cell? ⟨w.heap.size + 1 + 1 + 1, 0, none⟩ = some (.bool lf)
  c1 : wr.cell? ⟨w.heap.size + 1 + 1 + 1, 1, none⟩ = some s
  f0 : wr.frozen? ⟨w.heap.size + 1 + 1 + 1, 0, none⟩ = false
  f1 : wr.frozen? ⟨w.heap.size + 1 + 1 + 1, 1, none⟩ = false
  row : RowC wr (w.heap.size + 1 + 1 + 1 + 1) s l
  cap : Cap s
theorem JoinI.step {w wr w' : World} {lf : Bool} {s : Value} {l : List Cl} (h : JoinI w lf s l wr) (hb : Below wr.heap.size wr w') : JoinI w lf s l w' := by
  have c := fun {p : Addr} {x : Value} (hx : wr.cell? p = some x) => (hb.cell (p := p) (World.block_lt_of_cell? _ _ hx)).trans hx
  have hlt := World.block_lt_of_cell? _ _ h.c0
  exact ⟨h.below.trans (hb.mono h.below.size), c h.leaf, h.res.below hb, c h.c0, c h.c1, (hb.frozen (p := ⟨w.heap.size + 1 + 1 + 1, 0, none⟩) hlt).trans h.f0, (hb.frozen (p := ⟨w.heap.size + 1 + 1 + 1, 1, none⟩) hlt).trans h.f1, h.row.below hb, h.cap⟩
theorem slOneC (W : World) (y : Cl) : SlC (W.alloc (.cells #[.string (str y.key), .string (str y.val), .int .u32 y.chain, .int .u32 y.long] 32)) (.slice (some ⟨W.heap.size, 0, none⟩) 1 1) [y] := by
  refine ⟨_, W.heap.size, 0, 1, rfl, .inr rfl, fun j x hj => ?_⟩
  obtain rfl : j = 0 := by
    have := (List.getElem?_eq_some_iff.1 hj).1
    simp at this; exact this
  simp at hj
  subst hj
  exact ⟨World.cell?_alloc_new W _ _ 0, World.cell?_alloc_new W _ _ 1, World.cell?_alloc_new W _ _ 2, World.cell?_alloc_new W _ _ 3⟩
theorem JoinI.push {w W : World} {lf : Bool} {s : Value} {l : List Cl} (h : JoinI w lf s l W) (y : Cl) (hl : l.length ≤ 200000) (Hn : Nat) (hHn : W.heap.size = Hn) :
    ∃ a n c w', (Builtin.append_ #[29, 29] 29 #[s, .slice (some ⟨Hn, 0, none⟩) 1 1]).run Tryz.prog (W.alloc (.cells #[.string (str y.key), .string (str y.val), .int .u32 y.chain, .int .u32 y.long] 32)) = .ok (.slice a n c) w' ∧
      w'.cell? ⟨w.heap.size + 1 + 1 + 1, 1, none⟩ = some s ∧ w'.frozen? ⟨w.heap.size + 1 + 1 + 1, 1, none⟩ = false ∧ JoinI w lf (.slice a n c) (l ++ [y]) (w'.setCell ⟨w.heap.size + 1 + 1 + 1, 1, none⟩ (.slice a n c)) := by
  subst hHn
  have H := h.step ((Below.refl _ W).alloc (Nat.le_refl _) (.cells #[.string (str y.key), .string (str y.val), .int .u32 y.chain, .int .u32 y.long] 32))
  have hlt := World.block_lt_of_cell? _ _ H.c0
  obtain ⟨v', w', hr, hrow, _, hb⟩ := appC (W.alloc (.cells #[.string (str y.key), .string (str y.val), .int .u32 y.chain, .int .u32 y.long] 32)) (w.heap.size + 1 + 1 + 1 + 1) s (.slice (some ⟨W.heap.size, 0, none⟩) 1 1) l [y] 29 hlt H.row (slOneC W y) ⟨_, _, _, Nat.le_refl _, by decide, fun h => by cases h⟩ hl (by simp)
  obtain ⟨a, n, c, ha, hc, hn⟩ := hrow.cap
  have k1 := (hb.cell (p := ⟨w.heap.size + 1 + 1 + 1, 1, none⟩) (Nat.lt_succ_self _)).trans H.c1
  have k2 := (hb.frozen (p := ⟨w.heap.size + 1 + 1 + 1, 1, none⟩) (Nat.lt_succ_self _)).trans H.f1
  refine ⟨a, n, c, w', hr, k1, k2, ?_⟩
  refine ⟨(H.below.trans (hb.mono (by omega))).setCell (show w.heap.size ≤ w.heap.size + 1 + 1 + 1 by omega) _, (World.cell?_setCell_far _ _ _ _ (show w.heap.size + 1 + 1 + 1 ≠ w.heap.size by omega)).trans ((hb.cell (p := ⟨w.heap.size, 0, none⟩) (show w.heap.size < _ by omega)).trans H.leaf), ?_, (World.cell?_setCell_other _ _ _ _ (by simp)).trans ((hb.cell (p := ⟨w.heap.size + 1 + 1 + 1, 0, none⟩) (Nat.lt_succ_self _)).trans H.c0), World.cell?_setCell_same' _ _ _ (by rw [k1]; rfl), (World.frozen?_setCell _ _ _ _).trans ((hb.frozen (p := ⟨w.heap.size + 1 + 1 + 1, 0, none⟩) (Nat.lt_succ_self _)).trans H.f0), (World.frozen?_setCell _ _ _ _).trans k2, hrow.set (Nat.lt_succ_self _) _, ⟨_, _, _, ha, hc, hn⟩⟩
  have hz : w.heap.size + 1 + 1 < w.heap.size + 1 + 1 + 1 + 1 := by omega
  exact ⟨(World.cell?_setCell_far _ _ _ _ (show w.heap.size + 1 + 1 + 1 ≠ w.heap.size + 1 + 1 by omega)).trans ((hb.cell (p := ⟨w.heap.size + 1 + 1, 0, none⟩) hz).trans H.res.z0), (World.cell?_setCell_far _ _ _ _ (show w.heap.size + 1 + 1 + 1 ≠ w.heap.size + 1 + 1 by omega)).trans ((hb.cell (p := ⟨w.heap.size + 1 + 1, 1, none⟩) hz).trans H.res.z1), (World.frozen?_setCell _ _ _ _).trans ((hb.frozen (p := ⟨w.heap.size + 1 + 1, 0, none⟩) hz).trans H.res.f0), (World.frozen?_setCell _ _ _ _).trans ((hb.frozen (p := ⟨w.heap.size + 1 + 1, 1, none⟩) hz).trans H.res.f1)⟩
end Go.Proofs.YtdgcdekgleegbaaGreat
