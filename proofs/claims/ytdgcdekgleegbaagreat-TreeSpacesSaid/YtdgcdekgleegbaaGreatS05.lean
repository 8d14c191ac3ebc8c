/- Texts of one seat, merged. -/
import Derived.Test.YtdgcdekgleegbaaGreatS04
import Derived.Lib.SliceRun
import Derived.Test.YtdgcdekgleegbaaGreatS03
import Derived.Deep.RegionHeld3
set_option maxRecDepth 100000
set_option maxHeartbeats 4000000
set_option linter.unusedVariables false
/- What stays as it was while a call goes on: cells of its own boxes, none of them frozen, and all that was there. -/
namespace Go.Proofs.YtdgcdekgleegbaaGreat
open Go.RowKit
open Sl (Cl Kd Nd Rn)
structure Kp (B : Nat) (w0 : World) (L : List (Addr × Value)) (w : World) : Prop where
  cell : ∀ p ∈ L, w.cell? p.1 = some p.2
  froz : ∀ p ∈ L, w.frozen? p.1 = false
  below : Below B w0 w
theorem Kp.step {B : Nat} {w0 w w' : World} {L : List (Addr × Value)} (hB : B ≤ w0.heap.size) (h : Kp B w0 L w) (hb : Below w.heap.size w w') : Kp B w0 L w' :=
  ⟨fun p hp => (hb.cell (p := p.1) (World.block_lt_of_cell? _ _ (h.cell p hp))).trans (h.cell p hp), fun p hp => (hb.frozen (p := p.1) (World.block_lt_of_cell? _ _ (h.cell p hp))).trans (h.froz p hp), h.below.trans (hb.mono (Nat.le_trans hB h.below.size))⟩
theorem Kp.drew {B : Nat} {w0 w : World} {L : List (Addr × Value)} (h : Kp B w0 L w) : Kp B w0 L w.drew := ⟨h.cell, h.froz, h.below.drew⟩
theorem stepK3 {B : Nat} {w w1 w2 : World} {L : List (Addr × Value)} {p0 p1 p2 : Addr} {x0 x1 x2 : Value} (hB : B ≤ w.heap.size) (H : w1.cell? p0 = some x0 ∧ w1.cell? p1 = some x1 ∧ w1.cell? p2 = some x2 ∧ Kp B w L w1) (hb : Below w1.heap.size w1 w2) :
    w2.cell? p0 = some x0 ∧ w2.cell? p1 = some x1 ∧ w2.cell? p2 = some x2 ∧ Kp B w L w2 := by
  obtain ⟨h0, h1, h2, hk⟩ := H
  exact ⟨(hb.cell (p := p0) (World.block_lt_of_cell? _ _ h0)).trans h0, (hb.cell (p := p1) (World.block_lt_of_cell? _ _ h1)).trans h1, (hb.cell (p := p2) (World.block_lt_of_cell? _ _ h2)).trans h2, hk.step hB hb⟩
theorem stepK5 {B : Nat} {w w1 w2 : World} {L : List (Addr × Value)} {p0 p1 p2 p3 p4 : Addr} {x0 x1 x2 x3 x4 : Value} (hB : B ≤ w.heap.size) (H : w1.cell? p0 = some x0 ∧ w1.cell? p1 = some x1 ∧ w1.cell? p2 = some x2 ∧ w1.cell? p3 = some x3 ∧ w1.cell? p4 = some x4 ∧ Kp B w L w1) (hb : Below w1.heap.size w1 w2) :
    w2.cell? p0 = some x0 ∧ w2.cell? p1 = some x1 ∧ w2.cell? p2 = some x2 ∧ w2.cell? p3 = some x3 ∧ w2.cell? p4 = some x4 ∧ Kp B w L w2 := by
  obtain ⟨h0, h1, h2, h3, h4, hk⟩ := H
  exact ⟨(hb.cell (p := p0) (World.block_lt_of_cell? _ _ h0)).trans h0, (hb.cell (p := p1) (World.block_lt_of_cell? _ _ h1)).trans h1, (hb.cell (p := p2) (World.block_lt_of_cell? _ _ h2)).trans h2, (hb.cell (p := p3) (World.block_lt_of_cell? _ _ h3)).trans h3, (hb.cell (p := p4) (World.block_lt_of_cell? _ _ h4)).trans h4, hk.step hB hb⟩
theorem stepK2 {B : Nat} {w w1 w2 : World} {L : List (Addr × Value)} {p0 p1 : Addr} {x0 x1 : Value} (hB : B ≤ w.heap.size) (H : w1.cell? p0 = some x0 ∧ w1.cell? p1 = some x1 ∧ Kp B w L w1) (hb : Below w1.heap.size w1 w2) :
    w2.cell? p0 = some x0 ∧ w2.cell? p1 = some x1 ∧ Kp B w L w2 := by
  obtain ⟨h0, h1, hk⟩ := H
  exact ⟨(hb.cell (p := p0) (World.block_lt_of_cell? _ _ h0)).trans h0, (hb.cell (p := p1) (World.block_lt_of_cell? _ _ h1)).trans h1, hk.step hB hb⟩
theorem lastK3 {B : Nat} {w w1 : World} {L : List (Addr × Value)} {p0 p1 p2 : Addr} {x0 x1 x2 : Value} (H : w1.cell? p0 = some x0 ∧ w1.cell? p1 = some x1 ∧ w1.cell? p2 = some x2 ∧ Kp B w L w1) : Below B w w1 := H.2.2.2.below
theorem lastK5 {B : Nat} {w w1 : World} {L : List (Addr × Value)} {p0 p1 p2 p3 p4 : Addr} {x0 x1 x2 x3 x4 : Value} (H : w1.cell? p0 = some x0 ∧ w1.cell? p1 = some x1 ∧ w1.cell? p2 = some x2 ∧ w1.cell? p3 = some x3 ∧ w1.cell? p4 = some x4 ∧ Kp B w L w1) : Below B w w1 := H.2.2.2.2.2.below
theorem box0 (w : World) (A B : Array Value) (S T : TypeId) (i : Nat) : ((w.alloc (.cells A S)).alloc (.cells B T)).cell? ⟨w.heap.size, i, none⟩ = A[i]? :=
  (((Below.refl _ (w.alloc (.cells A S))).alloc (Nat.le_refl _) (.cells B T)).cell (p := ⟨w.heap.size, i, none⟩) (show w.heap.size < _ by simp)).trans (World.cell?_alloc_new w A S i)
theorem box1 (w : World) (A B : Array Value) (S T : TypeId) (i : Nat) : ((w.alloc (.cells A S)).alloc (.cells B T)).cell? ⟨w.heap.size + 1, i, none⟩ = B[i]? := by
  have := World.cell?_alloc_new (w.alloc (.cells A S)) B T i
  rwa [show (w.alloc (.cells A S)).heap.size = w.heap.size + 1 by simp] at this
theorem box1f (w : World) (A B : Array Value) (S T : TypeId) (i : Nat) : ((w.alloc (.cells A S)).alloc (.cells B T)).frozen? ⟨w.heap.size + 1, i, none⟩ = false := by
  have h : ((w.alloc (.cells A S)).alloc (.cells B T)).heap[w.heap.size + 1]? = some (.cells B T (0, 0)) := by
    have := heap_alloc_new (w.alloc (.cells A S)) (.cells B T)
    rwa [show (w.alloc (.cells A S)).heap.size = w.heap.size + 1 by simp] at this
  unfold World.frozen?
  simp only [h]
  simp
theorem boxB (w : World) (A B : Obj) : Below w.heap.size w ((w.alloc A).alloc B) := ((Below.refl _ _).alloc (Nat.le_refl _) _).alloc (by simp) _
/-- The second box, whatever is in it. -/
def row1 (g : Nat) (B : Array Value) : List (Addr × Value) := (List.range B.size).map fun i => (⟨g, i, none⟩, B[i]!)
theorem startK (w : World) (A B : Array Value) (S T : TypeId) : Kp w.heap.size w (row1 (w.heap.size + 1) B) ((w.alloc (.cells A S)).alloc (.cells B T)).drew := by
  refine ⟨fun p hp => ?_, fun p hp => ?_, (boxB w _ _).drew⟩
  · obtain ⟨i, hi, rfl⟩ := List.mem_map.1 hp
    have hi' : i < B.size := List.mem_range.1 hi
    show ((w.alloc (.cells A S)).alloc (.cells B T)).cell? _ = _
    rw [box1, getElem!_pos B i hi', Array.getElem?_eq_getElem hi']
  · obtain ⟨i, hi, rfl⟩ := List.mem_map.1 hp
    exact box1f w A B S T i
def zf : Array Value := #[.int .u8 0, .int .u16 0, .int .u32 0, .int .u64 0, .string ⟨#[]⟩]
def zn : Array Value := #[.bool false, .slice none 0 0, .slice none 0 0]
def zr : Array Value := #[.bool false, .slice none 0 0]
theorem Kp.zf {B : Nat} {w0 w : World} {g : Nat} (h : Kp B w0 (row1 g zf) w) : (w.cell? ⟨g, 0, none⟩ = some (.int .u8 0) ∧ w.cell? ⟨g, 1, none⟩ = some (.int .u16 0) ∧ w.cell? ⟨g, 2, none⟩ = some (.int .u32 0) ∧ w.cell? ⟨g, 3, none⟩ = some (.int .u64 0) ∧ w.cell? ⟨g, 4, none⟩ = some (.string ⟨#[]⟩)) ∧ (w.frozen? ⟨g, 0, none⟩ = false ∧ w.frozen? ⟨g, 1, none⟩ = false ∧ w.frozen? ⟨g, 2, none⟩ = false ∧ w.frozen? ⟨g, 3, none⟩ = false ∧ w.frozen? ⟨g, 4, none⟩ = false) := by
  have hm : ∀ i, i < 5 → ((⟨g, i, none⟩ : Addr), Go.Proofs.YtdgcdekgleegbaaGreat.zf[i]!) ∈ row1 g Go.Proofs.YtdgcdekgleegbaaGreat.zf := fun i hi => List.mem_map.2 ⟨i, List.mem_range.2 hi, rfl⟩
  exact ⟨⟨h.cell _ (hm 0 (by decide)), h.cell _ (hm 1 (by decide)), h.cell _ (hm 2 (by decide)), h.cell _ (hm 3 (by decide)), h.cell _ (hm 4 (by decide))⟩, h.froz _ (hm 0 (by decide)), h.froz _ (hm 1 (by decide)), h.froz _ (hm 2 (by decide)), h.froz _ (hm 3 (by decide)), h.froz _ (hm 4 (by decide))⟩
theorem Kp.zn {B : Nat} {w0 w : World} {g : Nat} (h : Kp B w0 (row1 g zn) w) : (w.cell? ⟨g, 0, none⟩ = some (.bool false) ∧ w.cell? ⟨g, 1, none⟩ = some (.slice none 0 0) ∧ w.cell? ⟨g, 2, none⟩ = some (.slice none 0 0)) ∧ (w.frozen? ⟨g, 0, none⟩ = false ∧ w.frozen? ⟨g, 1, none⟩ = false ∧ w.frozen? ⟨g, 2, none⟩ = false) := by
  have hm : ∀ i, i < 3 → ((⟨g, i, none⟩ : Addr), Go.Proofs.YtdgcdekgleegbaaGreat.zn[i]!) ∈ row1 g Go.Proofs.YtdgcdekgleegbaaGreat.zn := fun i hi => List.mem_map.2 ⟨i, List.mem_range.2 hi, rfl⟩
  exact ⟨⟨h.cell _ (hm 0 (by decide)), h.cell _ (hm 1 (by decide)), h.cell _ (hm 2 (by decide))⟩, h.froz _ (hm 0 (by decide)), h.froz _ (hm 1 (by decide)), h.froz _ (hm 2 (by decide))⟩
theorem Kp.zr {B : Nat} {w0 w : World} {g : Nat} (h : Kp B w0 (row1 g zr) w) : (w.cell? ⟨g, 0, none⟩ = some (.bool false) ∧ w.cell? ⟨g, 1, none⟩ = some (.slice none 0 0)) ∧ (w.frozen? ⟨g, 0, none⟩ = false ∧ w.frozen? ⟨g, 1, none⟩ = false) := by
  have hm : ∀ i, i < 2 → ((⟨g, i, none⟩ : Addr), Go.Proofs.YtdgcdekgleegbaaGreat.zr[i]!) ∈ row1 g Go.Proofs.YtdgcdekgleegbaaGreat.zr := fun i hi => List.mem_map.2 ⟨i, List.mem_range.2 hi, rfl⟩
  exact ⟨⟨h.cell _ (hm 0 (by decide)), h.cell _ (hm 1 (by decide))⟩, h.froz _ (hm 0 (by decide)), h.froz _ (hm 1 (by decide))⟩
theorem below_set2 {B g : Nat} {w w1 : World} {a b : Value} (h : Below B w w1) (hg : B ≤ g) : Below B w ((w1.setCell ⟨g, 0, none⟩ a).setCell ⟨g, 1, none⟩ b) := (h.setCell (p := ⟨g, 0, none⟩) hg _).setCell (p := ⟨g, 1, none⟩) hg _
theorem below_set3 {B g : Nat} {w w1 : World} {a b c : Value} (h : Below B w w1) (hg : B ≤ g) : Below B w (((w1.setCell ⟨g, 0, none⟩ a).setCell ⟨g, 1, none⟩ b).setCell ⟨g, 2, none⟩ c) := (below_set2 h hg).setCell (p := ⟨g, 2, none⟩) hg _
theorem below_set5 {B g : Nat} {w w1 : World} {a b c d e : Value} (h : Below B w w1) (hg : B ≤ g) : Below B w (((((w1.setCell ⟨g, 0, none⟩ a).setCell ⟨g, 1, none⟩ b).setCell ⟨g, 2, none⟩ c).setCell ⟨g, 3, none⟩ d).setCell ⟨g, 4, none⟩ e) := ((below_set3 h hg).setCell (p := ⟨g, 3, none⟩) hg _).setCell (p := ⟨g, 4, none⟩) hg _
theorem Kp.both {B : Nat} {w0 w : World} {L M : List (Addr × Value)} (h : Kp B w0 L w) (k : Kp B w0 M w) : Kp B w0 (L ++ M) w :=
  ⟨fun p hp => (List.mem_append.1 hp).elim (h.cell p) (k.cell p), fun p hp => (List.mem_append.1 hp).elim (h.froz p) (k.froz p), h.below⟩
theorem Kp.left {B : Nat} {w0 w : World} {L M : List (Addr × Value)} (h : Kp B w0 (L ++ M) w) : Kp B w0 L w :=
  ⟨fun p hp => h.cell p (List.mem_append.2 (.inl hp)), fun p hp => h.froz p (List.mem_append.2 (.inl hp)), h.below⟩
theorem Kp.right {B : Nat} {w0 w : World} {L M : List (Addr × Value)} (h : Kp B w0 (L ++ M) w) : Kp B w0 M w :=
  ⟨fun p hp => h.cell p (List.mem_append.2 (.inr hp)), fun p hp => h.froz p (List.mem_append.2 (.inr hp)), h.below⟩
/-- A box that has just been laid. -/
theorem Kp.laid {B : Nat} {w0 w : World} (h : Below B w0 w) (hB : B ≤ w.heap.size) (A : Array Value) (T : TypeId) : Kp B w0 (row1 w.heap.size A) (w.alloc (.cells A T)) := by
  refine ⟨fun p hp => ?_, fun p hp => ?_, h.alloc hB _⟩
  · obtain ⟨i, hi, rfl⟩ := List.mem_map.1 hp
    have hi' : i < A.size := List.mem_range.1 hi
    show (w.alloc (.cells A T)).cell? _ = _
    rw [World.cell?_alloc_new, getElem!_pos A i hi', Array.getElem?_eq_getElem hi']
  · obtain ⟨i, hi, rfl⟩ := List.mem_map.1 hp
    exact World.frozen?_alloc_new w A T i
theorem Kp.two {B : Nat} {w0 w : World} {g : Nat} {x0 x1 : Value} (h : Kp B w0 (row1 g #[x0, x1]) w) : (w.cell? ⟨g, 0, none⟩ = some x0 ∧ w.cell? ⟨g, 1, none⟩ = some x1) ∧ (w.frozen? ⟨g, 0, none⟩ = false ∧ w.frozen? ⟨g, 1, none⟩ = false) := by
  have hm : ∀ i, i < 2 → ((⟨g, i, none⟩ : Addr), (#[x0, x1] : Array Value)[i]!) ∈ row1 g #[x0, x1] := fun i hi => List.mem_map.2 ⟨i, List.mem_range.2 hi, rfl⟩
  exact ⟨⟨h.cell _ (hm 0 (by decide)), h.cell _ (hm 1 (by decide))⟩, h.froz _ (hm 0 (by decide)), h.froz _ (hm 1 (by decide))⟩
theorem Kp.three {B : Nat} {w0 w : World} {g : Nat} {x0 x1 x2 : Value} (h : Kp B w0 (row1 g #[x0, x1, x2]) w) : (w.cell? ⟨g, 0, none⟩ = some x0 ∧ w.cell? ⟨g, 1, none⟩ = some x1 ∧ w.cell? ⟨g, 2, none⟩ = some x2) ∧ (w.frozen? ⟨g, 0, none⟩ = false ∧ w.frozen? ⟨g, 1, none⟩ = false ∧ w.frozen? ⟨g, 2, none⟩ = false) := by
  have hm : ∀ i, i < 3 → ((⟨g, i, none⟩ : Addr), (#[x0, x1, x2] : Array Value)[i]!) ∈ row1 g #[x0, x1, x2] := fun i hi => List.mem_map.2 ⟨i, List.mem_range.2 hi, rfl⟩
  exact ⟨⟨h.cell _ (hm 0 (by decide)), h.cell _ (hm 1 (by decide)), h.cell _ (hm 2 (by decide))⟩, h.froz _ (hm 0 (by decide)), h.froz _ (hm 1 (by decide)), h.froz _ (hm 2 (by decide))⟩
theorem Kp.set {B : Nat} {w0 w : World} {L : List (Addr × Value)} (h : Kp B w0 L w) {p : Addr} (hp : ∀ q ∈ L, q.1 ≠ p) (hB : B ≤ p.block) (x : Value) : Kp B w0 L (w.setCell p x) :=
  ⟨fun q hq => (World.cell?_setCell_other _ _ _ _ (Ne.symm (hp q hq))).trans (h.cell q hq), fun q hq => (World.frozen?_setCell _ _ _ _).trans (h.froz q hq), h.below.setCell hB _⟩
end Go.Proofs.YtdgcdekgleegbaaGreat
/- Twenty cells that stay as they were. -/
namespace Go.Proofs.YtdgcdekgleegbaaGreat
open Go.RowKit
theorem step20 {w w1 w2 : World} {B : Nat} {p0 p1 p2 p3 p4 p5 p6 p7 p8 p9 p10 p11 p12 p13 p14 p15 p16 p17 p18 p19 : Addr} {x0 x1 x2 x3 x4 x5 x6 x7 x8 x9 x10 x11 x12 x13 x14 x15 x16 x17 x18 x19 : Value} (hB : B ≤ w.heap.size) (H : w1.cell? p0 = some x0 ∧ w1.cell? p1 = some x1 ∧ w1.cell? p2 = some x2 ∧ w1.cell? p3 = some x3 ∧ w1.cell? p4 = some x4 ∧ w1.cell? p5 = some x5 ∧ w1.cell? p6 = some x6 ∧ w1.cell? p7 = some x7 ∧ w1.cell? p8 = some x8 ∧ w1.cell? p9 = some x9 ∧ w1.cell? p10 = some x10 ∧ w1.cell? p11 = some x11 ∧ w1.cell? p12 = some x12 ∧ w1.cell? p13 = some x13 ∧ w1.cell? p14 = some x14 ∧ w1.cell? p15 = some x15 ∧ w1.cell? p16 = some x16 ∧ w1.cell? p17 = some x17 ∧ w1.cell? p18 = some x18 ∧ w1.cell? p19 = some x19 ∧ Below B w w1) (hb : Below w1.heap.size w1 w2) : w2.cell? p0 = some x0 ∧ w2.cell? p1 = some x1 ∧ w2.cell? p2 = some x2 ∧ w2.cell? p3 = some x3 ∧ w2.cell? p4 = some x4 ∧ w2.cell? p5 = some x5 ∧ w2.cell? p6 = some x6 ∧ w2.cell? p7 = some x7 ∧ w2.cell? p8 = some x8 ∧ w2.cell? p9 = some x9 ∧ w2.cell? p10 = some x10 ∧ w2.cell? p11 = some x11 ∧ w2.cell? p12 = some x12 ∧ w2.cell? p13 = some x13 ∧ w2.cell? p14 = some x14 ∧ w2.cell? p15 = some x15 ∧ w2.cell? p16 = some x16 ∧ w2.cell? p17 = some x17 ∧ w2.cell? p18 = some x18 ∧ w2.cell? p19 = some x19 ∧ Below B w w2 := by
  obtain ⟨h0, h1, h2, h3, h4, h5, h6, h7, h8, h9, h10, h11, h12, h13, h14, h15, h16, h17, h18, h19, hq⟩ := H
  exact ⟨(hb.cell (p := p0) (World.block_lt_of_cell? _ _ h0)).trans h0, (hb.cell (p := p1) (World.block_lt_of_cell? _ _ h1)).trans h1, (hb.cell (p := p2) (World.block_lt_of_cell? _ _ h2)).trans h2, (hb.cell (p := p3) (World.block_lt_of_cell? _ _ h3)).trans h3, (hb.cell (p := p4) (World.block_lt_of_cell? _ _ h4)).trans h4, (hb.cell (p := p5) (World.block_lt_of_cell? _ _ h5)).trans h5, (hb.cell (p := p6) (World.block_lt_of_cell? _ _ h6)).trans h6, (hb.cell (p := p7) (World.block_lt_of_cell? _ _ h7)).trans h7, (hb.cell (p := p8) (World.block_lt_of_cell? _ _ h8)).trans h8, (hb.cell (p := p9) (World.block_lt_of_cell? _ _ h9)).trans h9, (hb.cell (p := p10) (World.block_lt_of_cell? _ _ h10)).trans h10, (hb.cell (p := p11) (World.block_lt_of_cell? _ _ h11)).trans h11, (hb.cell (p := p12) (World.block_lt_of_cell? _ _ h12)).trans h12, (hb.cell (p := p13) (World.block_lt_of_cell? _ _ h13)).trans h13, (hb.cell (p := p14) (World.block_lt_of_cell? _ _ h14)).trans h14, (hb.cell (p := p15) (World.block_lt_of_cell? _ _ h15)).trans h15, (hb.cell (p := p16) (World.block_lt_of_cell? _ _ h16)).trans h16, (hb.cell (p := p17) (World.block_lt_of_cell? _ _ h17)).trans h17, (hb.cell (p := p18) (World.block_lt_of_cell? _ _ h18)).trans h18, (hb.cell (p := p19) (World.block_lt_of_cell? _ _ h19)).trans h19, hq.trans (hb.mono (Nat.le_trans hB hq.size))⟩
theorem last20 {w w1 : World} {B : Nat} {p0 p1 p2 p3 p4 p5 p6 p7 p8 p9 p10 p11 p12 p13 p14 p15 p16 p17 p18 p19 : Addr} {x0 x1 x2 x3 x4 x5 x6 x7 x8 x9 x10 x11 x12 x13 x14 x15 x16 x17 x18 x19 : Value} (H : w1.cell? p0 = some x0 ∧ w1.cell? p1 = some x1 ∧ w1.cell? p2 = some x2 ∧ w1.cell? p3 = some x3 ∧ w1.cell? p4 = some x4 ∧ w1.cell? p5 = some x5 ∧ w1.cell? p6 = some x6 ∧ w1.cell? p7 = some x7 ∧ w1.cell? p8 = some x8 ∧ w1.cell? p9 = some x9 ∧ w1.cell? p10 = some x10 ∧ w1.cell? p11 = some x11 ∧ w1.cell? p12 = some x12 ∧ w1.cell? p13 = some x13 ∧ w1.cell? p14 = some x14 ∧ w1.cell? p15 = some x15 ∧ w1.cell? p16 = some x16 ∧ w1.cell? p17 = some x17 ∧ w1.cell? p18 = some x18 ∧ w1.cell? p19 = some x19 ∧ Below B w w1) : Below B w w1 := H.2.2.2.2.2.2.2.2.2.2.2.2.2.2.2.2.2.2.2.2
theorem Kp.five {B : Nat} {w0 w : World} {g : Nat} {x0 x1 x2 x3 x4 : Value} (h : Kp B w0 (row1 g #[x0, x1, x2, x3, x4]) w) : w.cell? ⟨g, 0, none⟩ = some x0 ∧ w.cell? ⟨g, 1, none⟩ = some x1 ∧ w.cell? ⟨g, 2, none⟩ = some x2 ∧ w.cell? ⟨g, 3, none⟩ = some x3 ∧ w.cell? ⟨g, 4, none⟩ = some x4 := by
  have hm : ∀ i, i < 5 → ((⟨g, i, none⟩ : Addr), (#[x0, x1, x2, x3, x4] : Array Value)[i]!) ∈ row1 g #[x0, x1, x2, x3, x4] := fun i hi => List.mem_map.2 ⟨i, List.mem_range.2 hi, rfl⟩
  exact ⟨h.cell _ (hm 0 (by decide)), h.cell _ (hm 1 (by decide)), h.cell _ (hm 2 (by decide)), h.cell _ (hm 3 (by decide)), h.cell _ (hm 4 (by decide))⟩
/-- One box more. -/
theorem Kp.more {B : Nat} {w0 w : World} {L : List (Addr × Value)} (h : Kp B w0 L w) (hB : B ≤ w0.heap.size) (A : Array Value) (T : TypeId) : Kp B w0 (L ++ row1 w.heap.size A) (w.alloc (.cells A T)) :=
  (h.step hB ((Below.refl _ _).alloc (Nat.le_refl _) _)).both (Kp.laid h.below (Nat.le_trans hB h.below.size) A T)
end Go.Proofs.YtdgcdekgleegbaaGreat
/- The contract of slices.Clone, at a row of cells. -/
namespace Go.Proofs.YtdgcdekgleegbaaGreat
open Go.RowKit
open Sl (Cl Kd)
theorem SlC.takeS {w : World} {b o c c' : Nat} {l : List Cl} (h : SlC w (.slice (some ⟨b, o, none⟩) l.length c) l) (q : Nat) (hq : q ≤ l.length) : SlC w (.slice (some ⟨b, o, none⟩) q c') (l.take q) := by
  obtain ⟨a, b1, o1, c1, hv, ha, hx⟩ := h
  simp only [Value.slice.injEq] at hv
  obtain ⟨rfl, _, rfl⟩ := hv
  refine ⟨some ⟨b, o, none⟩, b, o, c', by rw [List.length_take, Nat.min_eq_left hq], .inr rfl, fun j x hj => ?_⟩
  have hjq : j < q ∧ l[j]? = some x := by
    have h1 := (List.getElem?_eq_some_iff.1 hj).1
    rw [List.length_take] at h1
    have h2 : j < q := by omega
    rw [List.getElem?_take_of_lt h2] at hj
    exact ⟨h2, hj⟩
  rcases ha with h0 | h0
  · subst h0; simp at hjq
  · cases h0; exact hx j x hjq.2
theorem SlC.dropS {w : World} {b o c c' : Nat} {l : List Cl} (h : SlC w (.slice (some ⟨b, o, none⟩) l.length c) l) (q : Nat) : SlC w (.slice (some ⟨b, o + q * 4, none⟩) (l.length - q) c') (l.drop q) := by
  obtain ⟨a, b1, o1, c1, hv, ha, hx⟩ := h
  simp only [Value.slice.injEq] at hv
  obtain ⟨rfl, _, rfl⟩ := hv
  refine ⟨some ⟨b, o + q * 4, none⟩, b, o + q * 4, c', by rw [List.length_drop], .inr rfl, fun j x hj => ?_⟩
  rw [List.getElem?_drop] at hj
  rcases ha with h0 | h0
  · subst h0; simp at hj
  · cases h0
    have := hx (q + j) x hj
    rw [show o + q * 4 + j * 4 = o + (q + j) * 4 by rw [Nat.add_mul]; omega]
    exact this
theorem SlC.emptyS (w : World) (a : Option Addr) (c : Nat) : SlC w (.slice a 0 c) [] := ⟨a, 0, 0, c, rfl, .inl rfl, fun j x h => by simp at h⟩
theorem cloneC_any (v : Value) (l : List Cl) (hll : l.length ≤ 100000) (w : World) (hv : SlC w v l) :
    Calls Tryz.prog 106 #[v] w (OwnC l w) := by
  obtain ⟨i0, hi, hz0, hz1, hz2⟩ := info_parts info42
  have q22 : ∀ (w : World) (a : Option Addr) (n c n' c' : Nat), (binOp .eql 29 (.slice a n c) (.slice none n' c')).run Tryz.prog w = .ok (.bool a.isNone) w := fun w a n c n' c' => Lib.run_eql_slice_nil w _ _ a n c n' c' Tryz.underlying29
  obtain ⟨a, b, o, c, rfl, ha, hx⟩ := hv
  have HX := Lib.hid (SlC.flat hx)
  have HA := Lib.hid ha
  clear ha hx
  cases a with
  | none =>
    have hl : l = [] := by
      rcases HA.out with h | h
      · exact h
      · cases h
    subst hl
    go_enter Tryz.func106, Tryz.ntmps106
    go_wp2
    go_ret
    exact ⟨_, rfl, World.ownsRow_nil _ _ _ _, Below.refl _ _⟩
  | some ad =>
    go_enter Tryz.func106, Tryz.ntmps106
    go_wp2_with (at_builtin; refine wpList_append_own _ rfl _ _ 29 rfl w.heap.size 32 i0 _ 4 40 Tryz.underlying29 hi hz0 hz1 hz2 rfl (by decide) _ _ _ rfl (World.ownsRow_made w #[] 0 (Nat.le_refl _) (Nat.zero_le _) rfl) ad l.length c (l.flatMap cellsC) rfl ?p0 ?p1 ?p2 ?p3 ?p4 ?p5 ?_)
    case p0 => exact flat_len _ _ cellsC_len _
    case p1 =>
      intro j u hj
      rcases HA.out with h | h
      · subst h; simp at hj
      · cases h
        exact Lib.cell?_alloc_some _ (HX.out j u hj)
    case p2 => exact flat_oneC _
    case p3 => unfold maxLen; omega
    case p4 => omega
    case p5 => simp
    intro v' w1 hown hgrow _
    go_wp2
    go_ret
    refine ⟨v', rfl, ?_, ((Below.refl _ w).alloc (Nat.le_refl _) _).grown hgrow (by simp) (by intro k hk; simp [Value.ownBlock] at hk; omega)⟩
    show w1.ownsRow _ _ _ _ _ _
    simpa using hown
end Go.Proofs.YtdgcdekgleegbaaGreat
/- The contract of slices.Clone, at a row of cells. -/
namespace Go.Proofs.YtdgcdekgleegbaaGreat
open Go.RowKit
open Sl (Cl Kd)
theorem SlK.takeS {w : World} {b o c c' : Nat} {l : List Kd} (h : SlK w (.slice (some ⟨b, o, none⟩) l.length c) l) (q : Nat) (hq : q ≤ l.length) : SlK w (.slice (some ⟨b, o, none⟩) q c') (l.take q) := by
  obtain ⟨a, b1, o1, c1, hv, ha, hx⟩ := h
  simp only [Value.slice.injEq] at hv
  obtain ⟨rfl, _, rfl⟩ := hv
  refine ⟨some ⟨b, o, none⟩, b, o, c', by rw [List.length_take, Nat.min_eq_left hq], .inr rfl, fun j x hj => ?_⟩
  have hjq : j < q ∧ l[j]? = some x := by
    have h1 := (List.getElem?_eq_some_iff.1 hj).1
    rw [List.length_take] at h1
    have h2 : j < q := by omega
    rw [List.getElem?_take_of_lt h2] at hj
    exact ⟨h2, hj⟩
  rcases ha with h0 | h0
  · subst h0; simp at hjq
  · cases h0; exact hx j x hjq.2
theorem SlK.dropS {w : World} {b o c c' : Nat} {l : List Kd} (h : SlK w (.slice (some ⟨b, o, none⟩) l.length c) l) (q : Nat) : SlK w (.slice (some ⟨b, o + q * 2, none⟩) (l.length - q) c') (l.drop q) := by
  obtain ⟨a, b1, o1, c1, hv, ha, hx⟩ := h
  simp only [Value.slice.injEq] at hv
  obtain ⟨rfl, _, rfl⟩ := hv
  refine ⟨some ⟨b, o + q * 2, none⟩, b, o + q * 2, c', by rw [List.length_drop], .inr rfl, fun j x hj => ?_⟩
  rw [List.getElem?_drop] at hj
  rcases ha with h0 | h0
  · subst h0; simp at hj
  · cases h0
    have := hx (q + j) x hj
    rw [show o + q * 2 + j * 2 = o + (q + j) * 2 by rw [Nat.add_mul]; omega]
    exact this
theorem SlK.emptyS (w : World) (a : Option Addr) (c : Nat) : SlK w (.slice a 0 c) [] := ⟨a, 0, 0, c, rfl, .inl rfl, fun j x h => by simp at h⟩
theorem cloneK_any (v : Value) (l : List Kd) (hll : l.length ≤ 100000) (w : World) (hv : SlK w v l) :
    Calls Tryz.prog 107 #[v] w (OwnK l w) := by
  obtain ⟨i0, hi, hz0, hz1, hz2⟩ := info_parts info47
  have q22 : ∀ (w : World) (a : Option Addr) (n c n' c' : Nat), (binOp .eql 69 (.slice a n c) (.slice none n' c')).run Tryz.prog w = .ok (.bool a.isNone) w := fun w a n c n' c' => Lib.run_eql_slice_nil w _ _ a n c n' c' Tryz.underlying69
  obtain ⟨a, b, o, c, rfl, ha, hx⟩ := hv
  have HX := Lib.hid (SlK.flat hx)
  have HA := Lib.hid ha
  clear ha hx
  cases a with
  | none =>
    have hl : l = [] := by
      rcases HA.out with h | h
      · exact h
      · cases h
    subst hl
    go_enter Tryz.func107, Tryz.ntmps107
    go_wp2
    go_ret
    exact ⟨_, rfl, World.ownsRow_nil _ _ _ _, Below.refl _ _⟩
  | some ad =>
    go_enter Tryz.func107, Tryz.ntmps107
    go_wp2_with (at_builtin; refine wpList_append_own _ rfl _ _ 69 rfl w.heap.size 135 i0 _ 2 24 Tryz.underlying69 hi hz0 hz1 hz2 rfl (by decide) _ _ _ rfl (World.ownsRow_made w #[] 0 (Nat.le_refl _) (Nat.zero_le _) rfl) ad l.length c (l.flatMap cellsK) rfl ?p0 ?p1 ?p2 ?p3 ?p4 ?p5 ?_)
    case p0 => exact flat_len _ _ cellsK_len _
    case p1 =>
      intro j u hj
      rcases HA.out with h | h
      · subst h; simp at hj
      · cases h
        exact Lib.cell?_alloc_some _ (HX.out j u hj)
    case p2 => exact flat_oneK _
    case p3 => unfold maxLen; omega
    case p4 => omega
    case p5 => simp
    intro v' w1 hown hgrow _
    go_wp2
    go_ret
    refine ⟨v', rfl, ?_, ((Below.refl _ w).alloc (Nat.le_refl _) _).grown hgrow (by simp) (by intro k hk; simp [Value.ownBlock] at hk; omega)⟩
    show w1.ownsRow _ _ _ _ _ _
    simpa using hown
end Go.Proofs.YtdgcdekgleegbaaGreat
/- The contract of a node's halves. -/
namespace Go.Proofs.YtdgcdekgleegbaaGreat
open Go.RowKit
open Sl (Cl Kd)
/-- Two rows of the call's own. -/
inductive HalfC (l m : List Cl) (w : World) (e : Ending) (w' : World) : Prop
  | mk (u v : Value) (B : Nat) (he : e = .returned (.tuple #[u, v])) (hu : RowC w' w.heap.size u l) (hlo : ∀ k, u.ownBlock = some k → k < B) (hv : RowC w' B v m) (h1 : w.heap.size ≤ B) (h2 : B ≤ w'.heap.size) (hb : Below w.heap.size w w')
set_option maxRecDepth 100000 in
theorem halvesC_any (v : Value) (l : List Cl) (hll : l.length ≤ 100000) (hl : ∀ x ∈ l, okC x) (w : World) (hv : SlC w v l) (hc : Cap v) :
    Calls Tryz.prog 142 #[shpC, v] w (HalfC (l.take (Sl.cutAt Sl.shC l)) (l.drop (Sl.cutAt Sl.shC l)) w) := by
  have HL := Lib.hid hl
  have HS1 := Lib.hid (fun W (hW : SlC W v l) => sumC_any v l hll hl W hW)
  have HV := Lib.hid hv
  have HVB : Hid (∀ W, Below w.heap.size w W → SlC W v l) := fun W hW => hv.below hW
  obtain ⟨a, b, o, c, rfl, ha, hx⟩ := hv
  have hcap : l.length ≤ c := by cases hc; assumption
  have hcm : c ≤ maxLen := by cases hc; assumption
  unfold maxLen at hcm
  have HX := Lib.hid hx
  have HA := Lib.hid ha
  clear hl ha hx hc
  unfold shpC at HS1 ⊢
  have HB0 := Lib.hid (BxC.new w)
  have hsm : Sl.sum Sl.shC l ≤ 6579600000 := by have := encC_le l l.length hll; rwa [List.take_length] at this
  go_enter Tryz.func142, Tryz.ntmps142
  go_wp2_with (go_at_call 91; refine (HS1.out _ (HVB.out _ ((Below.refl _ _).alloc (Nat.le_refl _) _))).mono ?_; rintro e w1 ⟨rfl, hb1⟩)
  have HB1 := Lib.hid (HB0.out.below hb1 (by simp))
  have HW1 : Hid (Below w.heap.size w w1) := ((Below.refl _ _).alloc (Nat.le_refl _) _).trans (hb1.mono (by simp))
  have HG1 := Lib.hid HB1.out.lt
  clear hb1 HB0 HS1
  revert HB1 HW1 HG1
  generalize hg : w.heap.size = g
  have HG := Lib.hid hg
  clear hg
  intro HB1 HW1 HG1
  go_loopg [6, 7, 9, 10] l.length (fun n c m s i wr => ∃ k : Nat, k ≤ l.length ∧ n = l.length - k ∧ i = .int .i64 ((k : Int) + 1) ∧ c = .int .i64 (Sl.st Sl.shC l k).1 ∧ m = .int .i64 (Sl.st Sl.shC l k).2 ∧ s = .int .i64 (Sl.sum Sl.shC (l.take k) : Nat) ∧ Hid (k = 0 ∨ k < l.length) ∧ Hid (Below (g + 1) w1 wr))
  case atStart => exact ⟨0, Nat.zero_le _, rfl, rfl, rfl, rfl, rfl, .inl rfl, Below.refl _ _⟩
  case round =>
    obtain ⟨k, hk, rfl, rfl, rfl, rfl, rfl, HK, HB⟩ := hrel
    by_cases hlt : k + 1 < l.length
    · obtain ⟨x, hx⟩ := take_some l k (by omega)
      obtain ⟨e0, e1, e2, e3⟩ := HX.out k x hx
      have hblt : b < g := by have h1 := World.block_lt_of_cell? _ _ e0; rw [HG.out] at h1; exact h1
      have HWr := Lib.hid (HW1.out.trans (HB.out.mono (Nat.le_succ g)))
      have d0 := (HWr.out.cell (p := ⟨b, o + k * 4, none⟩) hblt).trans e0
      have d1 := (HWr.out.cell (p := ⟨b, o + k * 4 + 1, none⟩) hblt).trans e1
      have d2 := (HWr.out.cell (p := ⟨b, o + k * 4 + 2, none⟩) hblt).trans e2
      have d3 := (HWr.out.cell (p := ⟨b, o + k * 4 + 3, none⟩) hblt).trans e3
      have HR := Lib.hid (HB1.out.below HB.out (Nat.lt_succ_self g))
      obtain rfl : a = some ⟨b, o, none⟩ := by
        rcases HA.out with h | h
        · rw [h] at hlt; cases hlt
        · exact h
      have HSK := Lib.hid ((congrArg (Sl.sum Sl.shC) (Sl.take_snoc' l k x hx)).trans (Sl.sum_snoc Sl.shC (l.take k) x))
      have HZ := Lib.hid (fun W => sizeC_any x (HL.out x (List.mem_of_getElem? hx)) W)
      have hz : (Sl.shC.enc x).length ≤ 65794 := by first | exact Sl.encC_len x | exact Nat.le_trans (Sl.encK_len x) (by decide)
      have hsk := encC_le l k hll
      have HDF : Hid (Sl.dif Sl.shC l (k + 1) = ((2 * Sl.sum Sl.shC (l.take (k + 1)) : Nat) - (Sl.sum Sl.shC l : Nat) : Int).natAbs) := rfl
      have HL0 := fun (h : k ≠ 0) (h' : Sl.dif Sl.shC l (k + 1) < (Sl.st Sl.shC l k).2) => Lib.hid (Sl.st_less Sl.shC l k h h')
      have HL1 := fun (h : k ≠ 0) (h' : ¬ Sl.dif Sl.shC l (k + 1) < (Sl.st Sl.shC l k).2) => Lib.hid (Sl.st_keep Sl.shC l k h h')
      have HF1 := Lib.hid (Sl.st_first Sl.shC l)
      have hF : Hid (wr.drew.cell? ⟨g, 0, none⟩ = some (.func (.func 84) #[] #[]) ∧ wr.drew.cell? ⟨g, 1, none⟩ = some (.func (.func 85) #[] #[]) ∧ wr.drew.cell? ⟨g, 2, none⟩ = some (.func (.func 86) #[] #[]) ∧ wr.drew.cell? ⟨g, 3, none⟩ = some (.func (.func 87) #[] #[]) ∧ wr.drew.cell? ⟨b, o + k * 4, none⟩ = some (.string (str x.key)) ∧ wr.drew.cell? ⟨b, o + k * 4 + 1, none⟩ = some (.string (str x.val)) ∧ wr.drew.cell? ⟨b, o + k * 4 + 2, none⟩ = some (.int .u32 x.chain) ∧ wr.drew.cell? ⟨b, o + k * 4 + 3, none⟩ = some (.int .u32 x.long) ∧ Below (g + 1) w1 wr.drew) := ⟨HR.out.c0, HR.out.c1, HR.out.c2, HR.out.c3, d0, d1, d2, d3, HB.out.drew⟩
      clear hblt hx
      unfold shpC aggC at HZ
      have hwr1 : IntKind.i64.wrap ((k : Int) + 1 - 1) = (k : Int) := by rw [show (k : Int) + 1 - 1 = k by omega]; exact IntWalk.i64_in _ (by omega)
      have hwr0 : IntKind.i64.wrap (k : Int) = (k : Int) := IntWalk.i64_in _ (by omega)
      have hk0 : (0 : Int) ≤ (k : Int) := by omega
      have hk1 : (k : Int) < l.length := by omega
      have hwr2 : IntKind.i64.wrap ((Sl.sum Sl.shC (l.take k) : Int) + ((2 + (Sl.shC.enc x).length : Nat) : Int)) = (Sl.sum Sl.shC (l.take (k + 1)) : Nat) := by rw [HSK.out]; rw [IntWalk.i64_in _ (by omega)]; omega
      go_wp2_with fail
      go_region_held3 (fun w' => w'.cell? ⟨g, 0, none⟩ = some (.func (.func 84) #[] #[]) ∧ w'.cell? ⟨g, 1, none⟩ = some (.func (.func 85) #[] #[]) ∧ w'.cell? ⟨g, 2, none⟩ = some (.func (.func 86) #[] #[]) ∧ w'.cell? ⟨g, 3, none⟩ = some (.func (.func 87) #[] #[]) ∧ w'.cell? ⟨b, o + k * 4, none⟩ = some (.string (str x.key)) ∧ w'.cell? ⟨b, o + k * 4 + 1, none⟩ = some (.string (str x.val)) ∧ w'.cell? ⟨b, o + k * 4 + 2, none⟩ = some (.int .u32 x.chain) ∧ w'.cell? ⟨b, o + k * 4 + 3, none⟩ = some (.int .u32 x.long) ∧ Below (g + 1) w1 w')
        ((first | assumption | exact step8 (Nat.succ_le_of_lt HG1.out) ‹_› hb | exact hF.out))
        (first
        | (go_at_call 137; refine (HZ.out _).mono ?_; rintro e w4 ⟨rfl, hb⟩))
      rename_i hS
      have HB4 := Lib.hid (last8 hS)
      clear hS
      have HSK2 := Lib.hid HSK.out
      have hdd : ((Sl.dif Sl.shC l (k + 1) : Nat) : Int) = 2 * ((Sl.sum Sl.shC (l.take k) : Int) + (2 + ((Sl.shC.enc x).length : Int))) - (Sl.sum Sl.shC l : Int) ∨ ((Sl.dif Sl.shC l (k + 1) : Nat) : Int) = (Sl.sum Sl.shC l : Int) - 2 * ((Sl.sum Sl.shC (l.take k) : Int) + (2 + ((Sl.shC.enc x).length : Int))) := by
        rw [HDF.out, HSK.out]; omega
      have hdd0 : (0 : Int) ≤ ((Sl.dif Sl.shC l (k + 1) : Nat) : Int) := by omega
      have HDD := Lib.hid hdd
      clear hdd
      clear HSK
      by_cases hmx : 2 * ((Sl.sum Sl.shC (l.take k) : Int) + (2 + ((Sl.shC.enc x).length : Int))) - (Sl.sum Sl.shC l : Int) < (Sl.sum Sl.shC l : Int) - 2 * ((Sl.sum Sl.shC (l.take k) : Int) + (2 + ((Sl.shC.enc x).length : Int)))
      all_goals by_cases h1 : (k : Int) + 1 = 1
      all_goals by_cases h2 : Sl.dif Sl.shC l (k + 1) < (Sl.st Sl.shC l k).2
      all_goals
        have hdn := HDD.out
        try (have h3 : (Sl.sum Sl.shC l : Int) - 2 * ((Sl.sum Sl.shC (l.take k) : Int) + (2 + ((Sl.shC.enc x).length : Int))) < ((Sl.st Sl.shC l k).2 : Nat) := by omega)
        try (have h3 : ¬ (Sl.sum Sl.shC l : Int) - 2 * ((Sl.sum Sl.shC (l.take k) : Int) + (2 + ((Sl.shC.enc x).length : Int))) < ((Sl.st Sl.shC l k).2 : Nat) := by omega)
        try (have h4 : 2 * ((Sl.sum Sl.shC (l.take k) : Int) + (2 + ((Sl.shC.enc x).length : Int))) - (Sl.sum Sl.shC l : Int) < ((Sl.st Sl.shC l k).2 : Nat) := by omega)
        try (have h4 : ¬ 2 * ((Sl.sum Sl.shC (l.take k) : Int) + (2 + ((Sl.shC.enc x).length : Int))) - (Sl.sum Sl.shC l : Int) < ((Sl.st Sl.shC l k).2 : Nat) := by omega)
        clear hdn
        go_wp2
        go_roundg (l.length - (k + 1))
        case measure => omega
        case rel =>
          have hdn := HDD.out
          have hsn := HSK2.out
          refine ⟨k + 1, by omega, rfl, by go_num, ?_, ?_, ?_, .inr hlt, HB4⟩
          · first
            | (rw [show Sl.st Sl.shC l (k + 1) = (k + 1, Sl.dif Sl.shC l (k + 1)) by (obtain rfl : k = 0 := by omega); exact HF1.out]; go_num)
            | (rw [(HL0 (by omega) h2).out]; go_num)
            | (rw [(HL1 (by omega) h2).out])
          · first
            | (rw [show Sl.st Sl.shC l (k + 1) = (k + 1, Sl.dif Sl.shC l (k + 1)) by (obtain rfl : k = 0 := by omega); exact HF1.out]; show Value.int _ _ = Value.int _ _; congr 1; show _ = ((Sl.dif Sl.shC l (k + 1) : Nat) : Int); omega)
            | (rw [(HL0 (by omega) h2).out]; show Value.int _ _ = Value.int _ _; congr 1; show _ = ((Sl.dif Sl.shC l (k + 1) : Nat) : Int); omega)
            | (rw [(HL1 (by omega) h2).out])
          · rw [HSK2.out]; show Value.int _ _ = Value.int _ _; congr 1 <;> first | (rw [IntWalk.i64_in _ (by omega)]; try omega) | omega
    · have hkk : k = l.length - 1 := by rcases HK.out with h | h <;> omega
      have HCA := Lib.hid (Sl.cutAt_st Sl.shC l)
      have HCL := Lib.hid (Sl.cutAt_le Sl.shC l)
      rw [← hkk] at HCA
      have HW3 := Lib.hid (HW1.out.trans (HB.out.mono (Nat.le_succ g)))
      have HVB' : Hid (∀ W, Below g w W → SlC W (.slice a l.length c) l) := fun W hW => HVB.out W (by rw [HG.out]; exact hW)
      clear HB HK hkk HL HV HVB hsm
      obtain ⟨q, hq⟩ : ∃ q, Sl.cutAt Sl.shC l = q := ⟨_, rfl⟩
      have HQ := Lib.hid hq
      rw [hq] at HCA HCL
      clear hq
      rw [← HCA.out]
      rcases HA.out with h | h
      · subst h
        obtain rfl : q = 0 := by have := HCL.out; simp at this; exact this
        have HC1 := Lib.hid (fun W (_ : Below g w W) => cloneC_any _ [] (by decide) W (SlC.emptyS W a c))
        have HC2 := Lib.hid (fun W (_ : Below g w W) => cloneC_any _ [] (by decide) W (SlC.emptyS W a c))
        clear HX HB1 HG1 HCA
        cases a with
        | none =>
          have HD : Hid (Below g w wr.drew) := HW3.out.drew
          go_wp2_with fail
          go_region_held3 (fun w' => Below g w w')
            ((first | assumption | exact ‹Below g w _›.trans (hb.mono (by have := (‹Below g w _› : Below g w _).size; rw [HG.out] at this; exact this)) | exact HD.out))
            (first
            | (go_at_call 106; with_reducible refine (HC2.out _ (by assumption)).mono ?_; rintro e w5 ⟨v2, rfl, hr2, hb⟩; have HR2 := Lib.hid hr2; have HS5 := Lib.hid hb.size; have HR1' := Lib.hid (HR1.out.below hb); clear hr2)
            | (go_at_call 106; with_reducible refine (HC1.out _ (by assumption)).mono ?_; rintro e w4 ⟨v1, rfl, hr1, hb⟩; have HR1 := Lib.hid hr1; have HS4 := Lib.hid (Nat.le_trans HD.out.size hb.size); have HLO := Lib.hid hr1.lo; clear hr1))
          rename_i hS
          have HBE := Lib.hid hS
          clear hS
          go_wp2
          go_ret2
          refine ⟨v1, v2, w4.heap.size, rfl, ?_, HLO.out, ?_, HS4.out, HS5.out, by rw [HG.out]; exact HBE.out⟩
          · rw [List.take_nil]; exact HR1'.out.base (Nat.le_trans HW3.out.size (Nat.le_refl _))
          · rw [List.drop_nil]; exact HR2.out
        | some ad =>
          have HD : Hid (Below g w wr.drew) := HW3.out.drew
          go_wp2_with fail
          go_region_held3 (fun w' => Below g w w')
            ((first | assumption | exact ‹Below g w _›.trans (hb.mono (by have := (‹Below g w _› : Below g w _).size; rw [HG.out] at this; exact this)) | exact HD.out))
            (first
            | (go_at_call 106; with_reducible refine (HC2.out _ (by assumption)).mono ?_; rintro e w5 ⟨v2, rfl, hr2, hb⟩; have HR2 := Lib.hid hr2; have HS5 := Lib.hid hb.size; have HR1' := Lib.hid (HR1.out.below hb); clear hr2)
            | (go_at_call 106; with_reducible refine (HC1.out _ (by assumption)).mono ?_; rintro e w4 ⟨v1, rfl, hr1, hb⟩; have HR1 := Lib.hid hr1; have HS4 := Lib.hid (Nat.le_trans HD.out.size hb.size); have HLO := Lib.hid hr1.lo; clear hr1))
          rename_i hS
          have HBE := Lib.hid hS
          clear hS
          go_wp2
          go_ret2
          refine ⟨v1, v2, w4.heap.size, rfl, ?_, HLO.out, ?_, HS4.out, HS5.out, by rw [HG.out]; exact HBE.out⟩
          · rw [List.take_nil]; exact HR1'.out.base (Nat.le_trans HW3.out.size (Nat.le_refl _))
          · rw [List.drop_nil]; exact HR2.out
      · subst h
        have hq0 : (0 : Int) ≤ (q : Int) := by omega
        have hq1 : (q : Int) ≤ l.length := by have := HCL.out; omega
        have hq2 : (q : Int) ≤ c := by omega
        have hq3 : (l.length : Int) ≤ c := by omega
        have HSW := Lib.hid (fun W (hW : Below g w W) => HVB'.out W hW)
        clear HX HB1 HG1 HCA
        have HC1 := Lib.hid (fun W (hW : Below g w W) => cloneC_any _ (l.take q) (by rw [List.length_take]; omega) W ((HSW.out W hW).takeS (c' := c) q HCL.out))
        by_cases hcq : c = q
        · have hlq : l.length = q := by omega
          subst hcq
          have hnn : (l.length : Int) - (c : Int) = 0 := by omega
          have hn2 : l.length - c = 0 := by omega
          have HC2 := Lib.hid (fun W (_ : Below g w W) => cloneC_any _ [] (by decide) W (SlC.emptyS W (some ⟨b, o, none⟩) 0))
          have HD : Hid (Below g w wr.drew) := HW3.out.drew
          go_wp2_with fail
          go_region_held3 (fun w' => Below g w w')
            ((first | assumption | exact ‹Below g w _›.trans (hb.mono (by have := (‹Below g w _› : Below g w _).size; rw [HG.out] at this; exact this)) | exact HD.out))
            (first
            | (go_at_call 106; with_reducible refine (HC2.out _ (by assumption)).mono ?_; rintro e w5 ⟨v2, rfl, hr2, hb⟩; have HR2 := Lib.hid hr2; have HS5 := Lib.hid hb.size; have HR1' := Lib.hid (HR1.out.below hb); clear hr2)
            | (go_at_call 106; with_reducible refine (HC1.out _ (by assumption)).mono ?_; rintro e w4 ⟨v1, rfl, hr1, hb⟩; have HR1 := Lib.hid hr1; have HS4 := Lib.hid (Nat.le_trans HD.out.size hb.size); have HLO := Lib.hid hr1.lo; clear hr1))
          rename_i hS
          have HBE := Lib.hid hS
          clear hS
          go_wp2
          go_ret2
          refine ⟨v1, v2, w4.heap.size, rfl, ?_, HLO.out, ?_, HS4.out, HS5.out, by rw [HG.out]; exact HBE.out⟩
          · rw [HQ.out]; exact HR1'.out.base (Nat.le_trans HW3.out.size (Nat.le_refl _))
          · rw [HQ.out, List.drop_eq_nil_of_le (by omega)]; exact HR2.out
        · have HC2 := Lib.hid (fun W (hW : Below g w W) => cloneC_any _ (l.drop q) (by rw [List.length_drop]; omega) W ((HSW.out W hW).dropS (c' := c - q) q))
          have HD : Hid (Below g w wr.drew) := HW3.out.drew
          go_wp2_with fail
          go_region_held3 (fun w' => Below g w w')
            ((first | assumption | exact ‹Below g w _›.trans (hb.mono (by have := (‹Below g w _› : Below g w _).size; rw [HG.out] at this; exact this)) | exact HD.out))
            (first
            | (go_at_call 106; with_reducible refine (HC2.out _ (by assumption)).mono ?_; rintro e w5 ⟨v2, rfl, hr2, hb⟩; have HR2 := Lib.hid hr2; have HS5 := Lib.hid hb.size; have HR1' := Lib.hid (HR1.out.below hb); clear hr2)
            | (go_at_call 106; with_reducible refine (HC1.out _ (by assumption)).mono ?_; rintro e w4 ⟨v1, rfl, hr1, hb⟩; have HR1 := Lib.hid hr1; have HS4 := Lib.hid (Nat.le_trans HD.out.size hb.size); have HLO := Lib.hid hr1.lo; clear hr1))
          rename_i hS
          have HBE := Lib.hid hS
          clear hS
          go_wp2
          go_ret2
          refine ⟨v1, v2, w4.heap.size, rfl, ?_, HLO.out, ?_, HS4.out, HS5.out, by rw [HG.out]; exact HBE.out⟩
          · rw [HQ.out]; exact HR1'.out.base (Nat.le_trans HW3.out.size (Nat.le_refl _))
          · rw [HQ.out]; exact HR2.out
end Go.Proofs.YtdgcdekgleegbaaGreat
