/- Texts of one seat, merged. -/
import Derived.Test.YtemfbkelenaaeaaGreatB04
import Derived.Test.YtemfbkelenaaeaaGreatB05
import Derived.Test.YtemfbkelenaaeaaGreatB09
import Derived.Test.YtemfbkelenaaeaaGreatB10
import Derived.Test.YtemfbkelenaaeaaGreatB03
import Derived.WalkLawsBesides
import Derived.Lib.Strings
set_option maxRecDepth 100000
set_option maxHeartbeats 4000000
set_option linter.unusedVariables false
/- What stays as it was while a call goes on: cells of its own boxes, none of them frozen, and all that was there. -/
namespace Go.Proofs.YtemfbkelenaaeaaGreat
open Go.RowKit
open Sl (Cl Kd Nd Rn)
structure Kp (B : Nat) (w0 : World) (L : List (Addr × Value)) (w : World) : Prop where
  cell : ∀ p ∈ L, w.cell? p.1 = some p.2
  froz : ∀ p ∈ L, w.frozen? p.1 = false
  below : Below B w0 w
theorem Kp.step {B : Nat} {w0 w w' : World} {L : List (Addr × Value)} (hB : B ≤ w0.heap.size) (h : Kp B w0 L w) (hb : Below w.heap.size w w') : Kp B w0 L w' :=
  ⟨fun p hp => (hb.cell (p := p.1) (World.block_lt_of_cell? _ _ (h.cell p hp))).trans (h.cell p hp), fun p hp => (hb.frozen (p := p.1) (World.block_lt_of_cell? _ _ (h.cell p hp))).trans (h.froz p hp), h.below.trans (hb.mono (Nat.le_trans hB h.below.size))⟩
theorem Kp.drew {B : Nat} {w0 w : World} {L : List (Addr × Value)} (h : Kp B w0 L w) : Kp B w0 L w.drew := ⟨h.cell, h.froz, h.below.drew⟩
theorem stepK3 {B : Nat} {w w1 w2 : World} {L : List (Addr × Value)} {p0 p1 p2 : Addr} {x0 x1 x2 : Value} (hB : B ≤ w.heap.size) (H : w1.cell? p0 = some x0 ∧ w1.cell? p1 = some x1 ∧ w1.cell? p2 = some x2 ∧ Kp B w L w1) (hb : Below w1.heap.size w1 w2) :
    w2.cell? p0 = some x0 ∧ w2.cell? p1 = some x1 ∧ w2.cell? p2 = some x2 ∧ Kp B w L w2 := by
  obtain ⟨h0, h1, h2, hk⟩ := H
  exact ⟨(hb.cell (p := p0) (World.block_lt_of_cell? _ _ h0)).trans h0, (hb.cell (p := p1) (World.block_lt_of_cell? _ _ h1)).trans h1, (hb.cell (p := p2) (World.block_lt_of_cell? _ _ h2)).trans h2, hk.step hB hb⟩
theorem stepK5 {B : Nat} {w w1 w2 : World} {L : List (Addr × Value)} {p0 p1 p2 p3 p4 : Addr} {x0 x1 x2 x3 x4 : Value} (hB : B ≤ w.heap.size) (H : w1.cell? p0 = some x0 ∧ w1.cell? p1 = some x1 ∧ w1.cell? p2 = some x2 ∧ w1.cell? p3 = some x3 ∧ w1.cell? p4 = some x4 ∧ Kp B w L w1) (hb : Below w1.heap.size w1 w2) :
    w2.cell? p0 = some x0 ∧ w2.cell? p1 = some x1 ∧ w2.cell? p2 = some x2 ∧ w2.cell? p3 = some x3 ∧ w2.cell? p4 = some x4 ∧ Kp B w L w2 := by
  obtain ⟨h0, h1, h2, h3, h4, hk⟩ := H
  exact ⟨(hb.cell (p := p0) (World.block_lt_of_cell? _ _ h0)).trans h0, (hb.cell (p := p1) (World.block_lt_of_cell? _ _ h1)).trans h1, (hb.cell (p := p2) (World.block_lt_of_cell? _ _ h2)).trans h2, (hb.cell (p := p3) (World.block_lt_of_cell? _ _ h3)).trans h3, (hb.cell (p := p4) (World.block_lt_of_cell? _ _ h4)).trans h4, hk.step hB hb⟩
theorem stepK2 {B : Nat} {w w1 w2 : World} {L : List (Addr × Value)} {p0 p1 : Addr} {x0 x1 : Value} (hB : B ≤ w.heap.size) (H : w1.cell? p0 = some x0 ∧ w1.cell? p1 = some x1 ∧ Kp B w L w1) (hb : Below w1.heap.size w1 w2) :
    w2.cell? p0 = some x0 ∧ w2.cell? p1 = some x1 ∧ Kp B w L w2 := by
  obtain ⟨h0, h1, hk⟩ := H
  exact ⟨(hb.cell (p := p0) (World.block_lt_of_cell? _ _ h0)).trans h0, (hb.cell (p := p1) (World.block_lt_of_cell? _ _ h1)).trans h1, hk.step hB hb⟩
theorem lastK3 {B : Nat} {w w1 : World} {L : List (Addr × Value)} {p0 p1 p2 : Addr} {x0 x1 x2 : Value} (H : w1.cell? p0 = some x0 ∧ w1.cell? p1 = some x1 ∧ w1.cell? p2 = some x2 ∧ Kp B w L w1) : Below B w w1 := H.2.2.2.below
theorem lastK5 {B : Nat} {w w1 : World} {L : List (Addr × Value)} {p0 p1 p2 p3 p4 : Addr} {x0 x1 x2 x3 x4 : Value} (H : w1.cell? p0 = some x0 ∧ w1.cell? p1 = some x1 ∧ w1.cell? p2 = some x2 ∧ w1.cell? p3 = some x3 ∧ w1.cell? p4 = some x4 ∧ Kp B w L w1) : Below B w w1 := H.2.2.2.2.2.below
theorem box0 (w : World) (A B : Array Value) (S T : TypeId) (i : Nat) : ((w.alloc (.cells A S)).alloc (.cells B T)).cell? ⟨w.heap.size, i, none⟩ = A[i]? :=
  (((Below.refl _ (w.alloc (.cells A S))).alloc (Nat.le_refl _) (.cells B T)).cell (p := ⟨w.heap.size, i, none⟩) (show w.heap.size < _ by simp)).trans (World.cell?_alloc_new w A S i)
theorem box1 (w : World) (A B : Array Value) (S T : TypeId) (i : Nat) : ((w.alloc (.cells A S)).alloc (.cells B T)).cell? ⟨w.heap.size + 1, i, none⟩ = B[i]? := by
  have := World.cell?_alloc_new (w.alloc (.cells A S)) B T i
  rwa [show (w.alloc (.cells A S)).heap.size = w.heap.size + 1 by simp] at this
theorem box1f (w : World) (A B : Array Value) (S T : TypeId) (i : Nat) : ((w.alloc (.cells A S)).alloc (.cells B T)).frozen? ⟨w.heap.size + 1, i, none⟩ = false := by
  have h : ((w.alloc (.cells A S)).alloc (.cells B T)).heap[w.heap.size + 1]? = some (.cells B T (0, 0)) := by
    have := heap_alloc_new (w.alloc (.cells A S)) (.cells B T)
    rwa [show (w.alloc (.cells A S)).heap.size = w.heap.size + 1 by simp] at this
  unfold World.frozen?
  simp only [h]
  simp
theorem boxB (w : World) (A B : Obj) : Below w.heap.size w ((w.alloc A).alloc B) := ((Below.refl _ _).alloc (Nat.le_refl _) _).alloc (by simp) _
/-- The second box, whatever is in it. -/
def row1 (g : Nat) (B : Array Value) : List (Addr × Value) := (List.range B.size).map fun i => (⟨g, i, none⟩, B[i]!)
theorem startK (w : World) (A B : Array Value) (S T : TypeId) : Kp w.heap.size w (row1 (w.heap.size + 1) B) ((w.alloc (.cells A S)).alloc (.cells B T)).drew := by
  refine ⟨fun p hp => ?_, fun p hp => ?_, (boxB w _ _).drew⟩
  · obtain ⟨i, hi, rfl⟩ := List.mem_map.1 hp
    have hi' : i < B.size := List.mem_range.1 hi
    show ((w.alloc (.cells A S)).alloc (.cells B T)).cell? _ = _
    rw [box1, getElem!_pos B i hi', Array.getElem?_eq_getElem hi']
  · obtain ⟨i, hi, rfl⟩ := List.mem_map.1 hp
    exact box1f w A B S T i
def zf : Array Value := #[.int .u8 0, .int .u16 0, .int .u32 0, .int .u64 0, .string ⟨#[]⟩]
def zn : Array Value := #[.bool false, .slice none 0 0, .slice none 0 0]
def zr : Array Value := #[.bool false, .slice none 0 0]
theorem Kp.zf {B : Nat} {w0 w : World} {g : Nat} (h : Kp B w0 (row1 g zf) w) : (w.cell? ⟨g, 0, none⟩ = some (.int .u8 0) ∧ w.cell? ⟨g, 1, none⟩ = some (.int .u16 0) ∧ w.cell? ⟨g, 2, none⟩ = some (.int .u32 0) ∧ w.cell? ⟨g, 3, none⟩ = some (.int .u64 0) ∧ w.cell? ⟨g, 4, none⟩ = some (.string ⟨#[]⟩)) ∧ (w.frozen? ⟨g, 0, none⟩ = false ∧ w.frozen? ⟨g, 1, none⟩ = false ∧ w.frozen? ⟨g, 2, none⟩ = false ∧ w.frozen? ⟨g, 3, none⟩ = false ∧ w.frozen? ⟨g, 4, none⟩ = false) := by
  have hm : ∀ i, i < 5 → ((⟨g, i, none⟩ : Addr), Go.Proofs.YtemfbkelenaaeaaGreat.zf[i]!) ∈ row1 g Go.Proofs.YtemfbkelenaaeaaGreat.zf := fun i hi => List.mem_map.2 ⟨i, List.mem_range.2 hi, rfl⟩
  exact ⟨⟨h.cell _ (hm 0 (by decide)), h.cell _ (hm 1 (by decide)), h.cell _ (hm 2 (by decide)), h.cell _ (hm 3 (by decide)), h.cell _ (hm 4 (by decide))⟩, h.froz _ (hm 0 (by decide)), h.froz _ (hm 1 (by decide)), h.froz _ (hm 2 (by decide)), h.froz _ (hm 3 (by decide)), h.froz _ (hm 4 (by decide))⟩
theorem Kp.zn {B : Nat} {w0 w : World} {g : Nat} (h : Kp B w0 (row1 g zn) w) : (w.cell? ⟨g, 0, none⟩ = some (.bool false) ∧ w.cell? ⟨g, 1, none⟩ = some (.slice none 0 0) ∧ w.cell? ⟨g, 2, none⟩ = some (.slice none 0 0)) ∧ (w.frozen? ⟨g, 0, none⟩ = false ∧ w.frozen? ⟨g, 1, none⟩ = false ∧ w.frozen? ⟨g, 2, none⟩ = false) := by
  have hm : ∀ i, i < 3 → ((⟨g, i, none⟩ : Addr), Go.Proofs.YtemfbkelenaaeaaGreat.zn[i]!) ∈ row1 g Go.Proofs.YtemfbkelenaaeaaGreat.zn := fun i hi => List.mem_map.2 ⟨i, List.mem_range.2 hi, rfl⟩
  exact ⟨⟨h.cell _ (hm 0 (by decide)), h.cell _ (hm 1 (by decide)), h.cell _ (hm 2 (by decide))⟩, h.froz _ (hm 0 (by decide)), h.froz _ (hm 1 (by decide)), h.froz _ (hm 2 (by decide))⟩
theorem Kp.zr {B : Nat} {w0 w : World} {g : Nat} (h : Kp B w0 (row1 g zr) w) : (w.cell? ⟨g, 0, none⟩ = some (.bool false) ∧ w.cell? ⟨g, 1, none⟩ = some (.slice none 0 0)) ∧ (w.frozen? ⟨g, 0, none⟩ = false ∧ w.frozen? ⟨g, 1, none⟩ = false) := by
  have hm : ∀ i, i < 2 → ((⟨g, i, none⟩ : Addr), Go.Proofs.YtemfbkelenaaeaaGreat.zr[i]!) ∈ row1 g Go.Proofs.YtemfbkelenaaeaaGreat.zr := fun i hi => List.mem_map.2 ⟨i, List.mem_range.2 hi, rfl⟩
  exact ⟨⟨h.cell _ (hm 0 (by decide)), h.cell _ (hm 1 (by decide))⟩, h.froz _ (hm 0 (by decide)), h.froz _ (hm 1 (by decide))⟩
theorem below_set2 {B g : Nat} {w w1 : World} {a b : Value} (h : Below B w w1) (hg : B ≤ g) : Below B w ((w1.setCell ⟨g, 0, none⟩ a).setCell ⟨g, 1, none⟩ b) := (h.setCell (p := ⟨g, 0, none⟩) hg _).setCell (p := ⟨g, 1, none⟩) hg _
theorem below_set3 {B g : Nat} {w w1 : World} {a b c : Value} (h : Below B w w1) (hg : B ≤ g) : Below B w (((w1.setCell ⟨g, 0, none⟩ a).setCell ⟨g, 1, none⟩ b).setCell ⟨g, 2, none⟩ c) := (below_set2 h hg).setCell (p := ⟨g, 2, none⟩) hg _
theorem below_set5 {B g : Nat} {w w1 : World} {a b c d e : Value} (h : Below B w w1) (hg : B ≤ g) : Below B w (((((w1.setCell ⟨g, 0, none⟩ a).setCell ⟨g, 1, none⟩ b).setCell ⟨g, 2, none⟩ c).setCell ⟨g, 3, none⟩ d).setCell ⟨g, 4, none⟩ e) := ((below_set3 h hg).setCell (p := ⟨g, 3, none⟩) hg _).setCell (p := ⟨g, 4, none⟩) hg _
theorem Kp.both {B : Nat} {w0 w : World} {L M : List (Addr × Value)} (h : Kp B w0 L w) (k : Kp B w0 M w) : Kp B w0 (L ++ M) w :=
  ⟨fun p hp => (List.mem_append.1 hp).elim (h.cell p) (k.cell p), fun p hp => (List.mem_append.1 hp).elim (h.froz p) (k.froz p), h.below⟩
theorem Kp.left {B : Nat} {w0 w : World} {L M : List (Addr × Value)} (h : Kp B w0 (L ++ M) w) : Kp B w0 L w :=
  ⟨fun p hp => h.cell p (List.mem_append.2 (.inl hp)), fun p hp => h.froz p (List.mem_append.2 (.inl hp)), h.below⟩
theorem Kp.right {B : Nat} {w0 w : World} {L M : List (Addr × Value)} (h : Kp B w0 (L ++ M) w) : Kp B w0 M w :=
  ⟨fun p hp => h.cell p (List.mem_append.2 (.inr hp)), fun p hp => h.froz p (List.mem_append.2 (.inr hp)), h.below⟩
/-- A box that has just been laid. -/
theorem Kp.laid {B : Nat} {w0 w : World} (h : Below B w0 w) (hB : B ≤ w.heap.size) (A : Array Value) (T : TypeId) : Kp B w0 (row1 w.heap.size A) (w.alloc (.cells A T)) := by
  refine ⟨fun p hp => ?_, fun p hp => ?_, h.alloc hB _⟩
  · obtain ⟨i, hi, rfl⟩ := List.mem_map.1 hp
    have hi' : i < A.size := List.mem_range.1 hi
    show (w.alloc (.cells A T)).cell? _ = _
    rw [World.cell?_alloc_new, getElem!_pos A i hi', Array.getElem?_eq_getElem hi']
  · obtain ⟨i, hi, rfl⟩ := List.mem_map.1 hp
    exact World.frozen?_alloc_new w A T i
theorem Kp.two {B : Nat} {w0 w : World} {g : Nat} {x0 x1 : Value} (h : Kp B w0 (row1 g #[x0, x1]) w) : (w.cell? ⟨g, 0, none⟩ = some x0 ∧ w.cell? ⟨g, 1, none⟩ = some x1) ∧ (w.frozen? ⟨g, 0, none⟩ = false ∧ w.frozen? ⟨g, 1, none⟩ = false) := by
  have hm : ∀ i, i < 2 → ((⟨g, i, none⟩ : Addr), (#[x0, x1] : Array Value)[i]!) ∈ row1 g #[x0, x1] := fun i hi => List.mem_map.2 ⟨i, List.mem_range.2 hi, rfl⟩
  exact ⟨⟨h.cell _ (hm 0 (by decide)), h.cell _ (hm 1 (by decide))⟩, h.froz _ (hm 0 (by decide)), h.froz _ (hm 1 (by decide))⟩
theorem Kp.three {B : Nat} {w0 w : World} {g : Nat} {x0 x1 x2 : Value} (h : Kp B w0 (row1 g #[x0, x1, x2]) w) : (w.cell? ⟨g, 0, none⟩ = some x0 ∧ w.cell? ⟨g, 1, none⟩ = some x1 ∧ w.cell? ⟨g, 2, none⟩ = some x2) ∧ (w.frozen? ⟨g, 0, none⟩ = false ∧ w.frozen? ⟨g, 1, none⟩ = false ∧ w.frozen? ⟨g, 2, none⟩ = false) := by
  have hm : ∀ i, i < 3 → ((⟨g, i, none⟩ : Addr), (#[x0, x1, x2] : Array Value)[i]!) ∈ row1 g #[x0, x1, x2] := fun i hi => List.mem_map.2 ⟨i, List.mem_range.2 hi, rfl⟩
  exact ⟨⟨h.cell _ (hm 0 (by decide)), h.cell _ (hm 1 (by decide)), h.cell _ (hm 2 (by decide))⟩, h.froz _ (hm 0 (by decide)), h.froz _ (hm 1 (by decide)), h.froz _ (hm 2 (by decide))⟩
theorem Kp.set {B : Nat} {w0 w : World} {L : List (Addr × Value)} (h : Kp B w0 L w) {p : Addr} (hp : ∀ q ∈ L, q.1 ≠ p) (hB : B ≤ p.block) (x : Value) : Kp B w0 L (w.setCell p x) :=
  ⟨fun q hq => (World.cell?_setCell_other _ _ _ _ (Ne.symm (hp q hq))).trans (h.cell q hq), fun q hq => (World.frozen?_setCell _ _ _ _).trans (h.froz q hq), h.below.setCell hB _⟩
end Go.Proofs.YtemfbkelenaaeaaGreat
/- What a node's frame is. -/
namespace Go.Proofs.YtemfbkelenaaeaaGreat.Sl
def leadsB : List Kd → Bool
  | [] => false
  | x :: t => decide (x.key = []) && (x :: t).all fun k => decide (2 ≤ k.page)
def rightB (r : Rn) : Bool := r.leaf || (match r.l with
  | [] => false
  | x :: t => decide (x.key = []) && (x :: t).all fun c => decide (2 ≤ c.chain))
theorem rightB_toR (n : Nd) : rightB (toR n) = (n.leaf || leadsB n.ks) := by
  obtain ⟨lf, cs, ks⟩ := n
  cases lf with
  | true => rfl
  | false =>
    cases ks with
    | nil => rfl
    | cons x t =>
      show (false || (decide (x.key = []) && ((x :: t).map toC).all fun c => decide (2 ≤ c.chain))) = (false || _)
      rw [List.all_map]; rfl
def frE (n : Nd) : Int := if n.leaf then (bodyR shC n.cs).2 else if leadsB n.ks then (bodyR shK n.ks).2 else 4
def frS (n : Nd) : List UInt8 := if n.leaf then (bodyR shC n.cs).1 else (bodyR shK n.ks).1
def frL (n : Nd) : Nat := if n.leaf then n.cs.length else n.ks.length
def frK (n : Nd) : Int := if n.leaf then 2 else 3
end Go.Proofs.YtemfbkelenaaeaaGreat.Sl
namespace Go.Proofs.YtemfbkelenaaeaaGreat
open Go.RowKit
open Sl (Cl Kd Nd Rn)
def frV (k c id tx : Int) (s : List UInt8) : Value := .agg #[.int .u8 k, .int .u16 c, .int .u32 id, .int .u64 tx, .string (str s)]
def frR (n : Nd) (id tx : Int) : Value := if Sl.frE n = 0 then frV (Sl.frK n) (Sl.frL n) id tx (Sl.frS n) else frV 0 0 0 0 []
inductive FrOut10 (n : Nd) (id tx : Int) (w : World) (e : Ending) (w' : World) : Prop
  | mk (he : e = .returned (.tuple #[frR n id tx, .int .i64 (Sl.frE n)])) (hb : Below w.heap.size w w')
theorem frR_form (n : Nd) (id tx : Int) : ∃ a b c d s, frR n id tx = .agg #[.int .u8 a, .int .u16 b, .int .u32 c, .int .u64 d, .string s] := by
  unfold frR
  split <;> exact ⟨_, _, _, _, _, rfl⟩
end Go.Proofs.YtemfbkelenaaeaaGreat
/- The contracts of frame: one whose body was laid, or the error. -/
namespace Go.Proofs.YtemfbkelenaaeaaGreat
open Go.RowKit
open Sl (Cl Kd Nd Rn)
theorem frame_ok (a b c d : Int) (s : ByteArray) (w : World) :
    Calls Tryz.prog 27 #[.agg #[.int .u8 a, .int .u16 b, .int .u32 c, .int .u64 d, .string s], .int .i64 0] w fun e w' => e = .returned (.tuple #[.agg #[.int .u8 a, .int .u16 b, .int .u32 c, .int .u64 d, .string s], .int .i64 0]) ∧ Below w.heap.size w w' := by
  go_enter Tryz.func27, Tryz.ntmps27
  go_wp2
  refine bodyPost_ret_by (v := .tuple #[.agg #[.int .u8 a, .int .u16 b, .int .u32 c, .int .u64 d, .string s], .int .i64 0]) ?_ rfl ⟨rfl, ?_⟩
  · simp [results, Tryz.results27, go_sem]
  · exact boxB w _ _
theorem frame_bad (a b c d : Int) (s : ByteArray) (r : Int) (hr : ¬ r = 0) (w : World) :
    Calls Tryz.prog 27 #[.agg #[.int .u8 a, .int .u16 b, .int .u32 c, .int .u64 d, .string s], .int .i64 r] w fun e w' => e = .returned (.tuple #[.agg #[.int .u8 0, .int .u16 0, .int .u32 0, .int .u64 0, .string ⟨#[]⟩], .int .i64 r]) ∧ Below w.heap.size w w' := by
  go_enter Tryz.func27, Tryz.ntmps27
  go_wp2
  refine bodyPost_ret_by (v := .tuple #[.agg #[.int .u8 0, .int .u16 0, .int .u32 0, .int .u64 0, .string ⟨#[]⟩], .int .i64 r]) ?_ rfl ⟨rfl, ?_⟩
  · simp [results, Tryz.results27, go_sem]
  · exact boxB w _ _
end Go.Proofs.YtemfbkelenaaeaaGreat
/- The contract of a node's Frame, at one sort. -/
namespace Go.Proofs.YtemfbkelenaaeaaGreat
open Go.RowKit
open Sl (Cl Kd Nd Rn)
set_option maxHeartbeats 4000000 in
theorem nFrameC_ok (v : Value) (n : Nd) (id tx : Int) (w : World) (hv : NdV w v n) (hlf : n.leaf = true) (hl : n.cs.length ≤ 60000) (hok : ∀ x ∈ n.cs, okC x) :
    Calls Tryz.prog 9 #[v, .int .u32 id, .int .u64 tx] w (FrOut10 n id tx w) := by
  have HE : Hid (Sl.frE n = (Sl.bodyR Sl.shC n.cs).2) := by show _ = _; unfold Sl.frE; rw [if_pos hlf]
  have HR : Hid (frR n id tx = if Sl.frE n = 0 then frV 2 (n.cs.length : Nat) id tx (Sl.bodyR Sl.shC n.cs).1 else frV 0 0 0 0 []) := by
    show _ = _
    unfold frR Sl.frK Sl.frL Sl.frS
    rw [hlf]; rfl
  obtain ⟨vc, vk, rfl, hc, hcc, hk, hkk⟩ := hv
  have HLV := Lib.hid (fun W => leaves_any W)
  have HS := Lib.hid (fun W (hW : Below w.heap.size w W) => bodyC_any vc n.cs (by omega) hok W (hc.below hW))
  rw [hlf]
  unfold ndV
  unfold shpC at HLV HS
  have hlen : ∀ a m c, vc = .slice a m c → m = n.cs.length := by obtain ⟨_, _, _, _, h, _⟩ := hc; intro a m c h2; rw [h] at h2; injection h2 with _ h3; exact h3.symm
  obtain ⟨a, m, c, _, _, _⟩ := hcc
  obtain ⟨a', m', c', _, _, _⟩ := hkk
  obtain rfl : m = n.cs.length := hlen _ _ _ rfl
  have hw16 : IntKind.u16.wrap (n.cs.length : Int) = (n.cs.length : Int) := by rw [IntKind.wrap_u16]; omega
  have HFB := Lib.hid (fun a b c d s r hr W => frame_bad a b c d s r hr W)
  have HFO := Lib.hid (fun a b c d s W => frame_ok a b c d s W)
  clear hc hk hok hlen
  revert HS HE HR
  generalize (Sl.bodyR Sl.shC n.cs).1 = s
  generalize (Sl.bodyR Sl.shC n.cs).2 = r
  intro HE HR HS
  have HST : Hid (∀ x1 x2, ((w.alloc (.cells #[.bool true, x1, x2] 32)).alloc (.cells #[.int .u8 0, .int .u16 0, .int .u32 0, .int .u64 0, .string ⟨#[]⟩] 27)).cell? ⟨w.heap.size, 0, none⟩ = some (.bool true) ∧ ((w.alloc (.cells #[.bool true, x1, x2] 32)).alloc (.cells #[.int .u8 0, .int .u16 0, .int .u32 0, .int .u64 0, .string ⟨#[]⟩] 27)).cell? ⟨w.heap.size, 1, none⟩ = some x1 ∧ ((w.alloc (.cells #[.bool true, x1, x2] 32)).alloc (.cells #[.int .u8 0, .int .u16 0, .int .u32 0, .int .u64 0, .string ⟨#[]⟩] 27)).cell? ⟨w.heap.size, 2, none⟩ = some x2 ∧ Kp w.heap.size w (row1 (w.heap.size + 1) zf) ((w.alloc (.cells #[.bool true, x1, x2] 32)).alloc (.cells #[.int .u8 0, .int .u16 0, .int .u32 0, .int .u64 0, .string ⟨#[]⟩] 27))) :=
    fun x1 x2 => ⟨box0 w _ _ _ _ 0, box0 w _ _ _ _ 1, box0 w _ _ _ _ 2, ⟨(startK w _ _ _ _).cell, (startK w _ _ _ _).froz, boxB w _ _⟩⟩
  by_cases hr0 : r = 0
  all_goals
    try subst hr0
    go_enter Tryz.func9, Tryz.ntmps9
    go_wp2_with fail
    have HSD : Hid (((w.alloc (.cells #[.bool true, .slice a n.cs.length c, .slice a' m' c'] 32)).alloc (.cells #[.int .u8 0, .int .u16 0, .int .u32 0, .int .u64 0, .string ⟨#[]⟩] 27)).drew.cell? ⟨w.heap.size, 0, none⟩ = some (.bool true) ∧ ((w.alloc (.cells #[.bool true, .slice a n.cs.length c, .slice a' m' c'] 32)).alloc (.cells #[.int .u8 0, .int .u16 0, .int .u32 0, .int .u64 0, .string ⟨#[]⟩] 27)).drew.cell? ⟨w.heap.size, 1, none⟩ = some (.slice a n.cs.length c) ∧ ((w.alloc (.cells #[.bool true, .slice a n.cs.length c, .slice a' m' c'] 32)).alloc (.cells #[.int .u8 0, .int .u16 0, .int .u32 0, .int .u64 0, .string ⟨#[]⟩] 27)).drew.cell? ⟨w.heap.size, 2, none⟩ = some (.slice a' m' c') ∧ Kp w.heap.size w (row1 (w.heap.size + 1) zf) ((w.alloc (.cells #[.bool true, .slice a n.cs.length c, .slice a' m' c'] 32)).alloc (.cells #[.int .u8 0, .int .u16 0, .int .u32 0, .int .u64 0, .string ⟨#[]⟩] 27)).drew) := ⟨(HST.out _ _).1, (HST.out _ _).2.1, (HST.out _ _).2.2.1, (HST.out _ _).2.2.2.drew⟩
    go_region_held3 (fun w' => w'.cell? ⟨w.heap.size, 0, none⟩ = some (.bool true) ∧ w'.cell? ⟨w.heap.size, 1, none⟩ = some (.slice a n.cs.length c) ∧ w'.cell? ⟨w.heap.size, 2, none⟩ = some (.slice a' m' c') ∧ Kp w.heap.size w (row1 (w.heap.size + 1) zf) w')
      ((first | assumption | exact stepK3 (Nat.le_refl _) ‹_› hb | exact HSD.out))
      (first
      | (go_at_call 25; refine (HLV.out _).mono ?_; rintro e w1 ⟨rfl, hb⟩)
      | (go_at_call 26; refine (HS.out _ (lastK3 (by assumption))).mono ?_; rintro e w2 ⟨rfl, hb⟩))
    rename_i hS
    have HS2 := Lib.hid hS
    clear hS
    have k0 := HS2.out.1
    have k1 := HS2.out.2.1
    have k2 := HS2.out.2.2.1
    first
    | go_wp2_with (go_at_call 27; with_reducible refine (HFO.out _ _ _ _ _ _).mono ?_; rintro e w3 ⟨rfl, hb3⟩; have HS3 := Lib.hid (stepK3 (Nat.le_refl _) HS2.out hb3); clear k0 k1 k2 hb3; obtain ⟨⟨z0, z1, z2, z3, z4⟩, f0, f1, f2, f3, f4⟩ := HS3.out.2.2.2.zf)
      refine bodyPost_ret_by (v := .tuple #[frV 2 (n.cs.length : Nat) id tx s, .int .i64 0]) ?_ rfl ?_
      · simp [frV, results, Tryz.results9, go_sem, z0, z1, z2, z3, z4]
      · exact ⟨by rw [HR.out, HE.out, if_pos rfl], below_set5 HS3.out.2.2.2.below (Nat.le_succ _)⟩
    | go_wp2_with (go_at_call 27; with_reducible refine (HFB.out _ _ _ _ _ _ hr0 _).mono ?_; rintro e w3 ⟨rfl, hb3⟩; have HS3 := Lib.hid (stepK3 (Nat.le_refl _) HS2.out hb3); clear k0 k1 k2 hb3; obtain ⟨⟨z0, z1, z2, z3, z4⟩, f0, f1, f2, f3, f4⟩ := HS3.out.2.2.2.zf)
      refine bodyPost_ret_by (v := .tuple #[frV 0 0 0 0 [], .int .i64 r]) ?_ rfl ?_
      · simp [frV, str, results, Tryz.results9, go_sem, z0, z1, z2, z3, z4]
      · exact ⟨by rw [HR.out, HE.out, if_neg hr0], below_set5 HS3.out.2.2.2.below (Nat.le_succ _)⟩
end Go.Proofs.YtemfbkelenaaeaaGreat
/- The contract of mayStand, at a branch's cells. -/
namespace Go.Proofs.YtemfbkelenaaeaaGreat
open Go.RowKit
open Sl (Cl Kd)

set_option maxHeartbeats 4000000 in
set_option maxRecDepth 100000 in
theorem mayK_any (v : Value) (l : List Kd) (hll : l.length ≤ 100000) (w : World) (hv : SlK w v l) :
    Calls Tryz.prog 74 #[shpK, v] w fun e w' => e = .returned (.int .i64 (Sl.right Sl.shK l)) ∧ Below w.heap.size w w' := by
  have HV := Lib.hid hv
  obtain ⟨a, b, o, c, rfl, ha, hx⟩ := hv
  have HX := Lib.hid hx
  have HA := Lib.hid ha
  clear ha hx
  have hn1 : ∀ w, (binOp .neq 72 .nilFunc .nilFunc).run Tryz.prog w = .ok (.bool false) w := fun w => by kernel_rfl
  unfold shpK
  have HB0 := Lib.hid (BxK.new w)
  go_enter Tryz.func74, Tryz.ntmps74
  go_wp2
  have HW0 : Hid (Below w.heap.size w (w.alloc (.cells #[.func (.func 68) #[] #[], .func (.func 71) #[] #[], .func (.func 72) #[] #[], .nilFunc] 74))) := (Below.refl _ _).alloc (Nat.le_refl _) _
  revert HB0 HW0
  generalize (w.alloc (.cells #[.func (.func 68) #[] #[], .func (.func 71) #[] #[], .func (.func 72) #[] #[], .nilFunc] 74)) = w2
  generalize hg : w.heap.size = g
  have HG := Lib.hid hg
  clear hg
  intro HB0 HW0
  go_loopg [10] l.length (fun n i wr => ∃ k : Nat, k ≤ l.length ∧ n = l.length - k ∧ i = .int .i64 k ∧ Hid ((l.take k).any (Sl.long Sl.shK) = false) ∧ Hid (Below (g + 1) w2 wr))
  case atStart => exact ⟨0, Nat.zero_le _, rfl, rfl, rfl, Below.refl _ _⟩
  case round =>
    obtain ⟨k, hk, rfl, rfl, HM, HB⟩ := hrel
    by_cases hlt : k < l.length
    · obtain ⟨x, hx⟩ := take_some l k hlt
      have HXK := Lib.hid hx
      obtain ⟨e0, e1⟩ := HX.out k x hx
      have hblt : b < g := by have h1 := World.block_lt_of_cell? _ _ e0; rw [HG.out] at h1; exact h1
      have HWr := Lib.hid (HW0.out.trans (HB.out.mono (Nat.le_succ g)))
      have d0 := (HWr.out.cell (p := ⟨b, o + k * 2, none⟩) hblt).trans e0
      have d1 := (HWr.out.cell (p := ⟨b, o + k * 2 + 1, none⟩) hblt).trans e1
      have HR := Lib.hid (HB0.out.below HB.out (Nat.lt_succ_self g))
      have q0 := fun o1 => (HR.out.alloc o1).c0
      have q1 := fun o1 => (HR.out.alloc o1).c1
      have q2 := fun o1 => (HR.out.alloc o1).c2
      have q3 := fun o1 => (HR.out.alloc o1).c3
      obtain rfl : a = some ⟨b, o, none⟩ := by
        rcases HA.out with h | h
        · rw [h] at hlt; cases hlt
        · exact h
      have HK := Lib.hid (fun W => keyK2_any x W)
      unfold shpK aggK at HK
      have hs := str_size (Sl.shK.key x)
      clear e0 e1 hx
      revert HK hs
      generalize hky : Sl.shK.key x = ky
      have HKY := Lib.hid hky
      clear hky
      intro HK hs
      by_cases hA : 255 < ky.length
      · have HL : Hid (Sl.right Sl.shK l = 5) := Sl.right_long Sl.shK l k x HXK.out (by unfold Sl.long; rw [HKY.out, decide_eq_true hA]; rfl)
        have hA' : (255 : Int) < ky.length := by omega
        go_wp2_with (go_at_call 107; refine (HK.out _).mono ?_; rintro e w4 ⟨rfl, hb4⟩)
        have HB4 : Hid (Below (g + 1) w2 w4) := (HB.out.alloc (by have := HR.out.lt; omega) _).trans (hb4.mono (by have := HR.out.lt; simp; omega))
        go_ret
        refine ⟨ret_int HL.out.symm, ?_⟩
        rw [HG.out]
        exact HW0.out.trans (HB4.out.mono (Nat.le_succ g))
      · have hA' : ¬ (255 : Int) < ky.length := by omega
        have HLX : Hid (Sl.long Sl.shK x = false) := by show _ = _; unfold Sl.long; rw [HKY.out, decide_eq_false hA]; rfl
        have HN := Lib.hid (Sl.any_snoc Sl.shK l k x HXK.out HM.out HLX.out)
        go_wp2_with (first
          | (go_at_call 107; refine (HK.out _).mono ?_; rintro e w4 ⟨rfl, hb4⟩; have HR4 := Lib.hid ((HR.out.alloc (.cells #[.string (str x.key), .int .u32 x.page] 78)).below hb4 (by have := HR.out.lt; simp; omega)); have r3 := HR4.out.c3))
        have HB4 : Hid (Below (g + 1) w2 w4) := (HB.out.alloc (by have := HR.out.lt; omega) _).trans (hb4.mono (by have := HR.out.lt; simp; omega))
        clear hb4
        go_roundg (l.length - (k + 1))
        case measure => omega
        case rel => exact ⟨k + 1, by omega, rfl, by go_num, HN, HB4⟩
    · obtain rfl : k = l.length := by omega
      rw [List.take_length] at HM
      obtain ⟨wo, rfl⟩ : ∃ wo : World, wo = wr := ⟨_, rfl⟩
      have HBO := Lib.hid HB.out
      clear HB
      go_wp2
      go_loopg [35] l.length (fun n i wr => ∃ k : Nat, k ≤ l.length - 1 ∧ n = l.length - k ∧ i = .int .i64 k ∧ Hid (∀ j a b, j < k → l[j]? = some a → l[j + 1]? = some b → Sl.less (Sl.shK.key a) (Sl.shK.key b) = true) ∧ Hid (Below (g + 1) w2 wr))
      case atStart => exact ⟨0, Nat.zero_le _, rfl, rfl, fun j a b hj => absurd hj (Nat.not_lt_zero j), HBO.out⟩
      case round =>
        obtain ⟨k, hk', rfl, rfl, HN, HB⟩ := hrel
        by_cases hlt1 : k + 1 < l.length
        · obtain ⟨x, hx⟩ := take_some l k (by omega)
          obtain ⟨y, hy⟩ := take_some l (k + 1) hlt1
          have HXK := Lib.hid hx
          have HYK := Lib.hid hy
          obtain ⟨e0, e1⟩ := HX.out k x hx
          obtain ⟨f0, f1⟩ := HX.out (k + 1) y hy
          have hblt : b < g := by have h1 := World.block_lt_of_cell? _ _ e0; rw [HG.out] at h1; exact h1
          have HWr := Lib.hid (HW0.out.trans (HB.out.mono (Nat.le_succ g)))
          have d0 := (HWr.out.cell (p := ⟨b, o + k * 2, none⟩) hblt).trans e0
          have d1 := (HWr.out.cell (p := ⟨b, o + k * 2 + 1, none⟩) hblt).trans e1
          have g0 := (HWr.out.cell (p := ⟨b, o + (k + 1) * 2, none⟩) hblt).trans f0
          have g1 := (HWr.out.cell (p := ⟨b, o + (k + 1) * 2 + 1, none⟩) hblt).trans f1
          have HR := Lib.hid (HB0.out.below HB.out (Nat.lt_succ_self g))
          obtain rfl : a = some ⟨b, o, none⟩ := by
            rcases HA.out with h | h
            · rw [h] at hlt1; cases hlt1
            · exact h
          have hF : Hid (wr.drew.cell? ⟨g, 0, none⟩ = some (.func (.func 68) #[] #[]) ∧ wr.drew.cell? ⟨g, 1, none⟩ = some (.func (.func 71) #[] #[]) ∧ wr.drew.cell? ⟨g, 2, none⟩ = some (.func (.func 72) #[] #[]) ∧ wr.drew.cell? ⟨g, 3, none⟩ = some (.nilFunc) ∧ wr.drew.cell? ⟨b, o + k * 2, none⟩ = some (.string (str x.key)) ∧ wr.drew.cell? ⟨b, o + k * 2 + 1, none⟩ = some (.int .u32 x.page) ∧ wr.drew.cell? ⟨b, o + (k + 1) * 2, none⟩ = some (.string (str y.key)) ∧ wr.drew.cell? ⟨b, o + (k + 1) * 2 + 1, none⟩ = some (.int .u32 y.page) ∧ Below (g + 1) w2 wr.drew) := ⟨HR.out.c0, HR.out.c1, HR.out.c2, HR.out.c3, d0, d1, g0, g1, HB.out.drew⟩
          have hg2 := HB0.out.lt
          have HX1 := Lib.hid (fun W => keyK2_any x W)
          have HX2 := Lib.hid (fun W => keyK2_any y W)
          unfold shpK aggK at HX1 HX2
          clear e0 e1 f0 f1 d0 g0 d1 g1 hx hy
          have hwr : IntKind.i64.wrap ((k : Int) + 1) = (k : Int) + 1 := IntWalk.i64_in _ (by omega)
          have hk0 : (0 : Int) ≤ (k : Int) := by omega
          have hk1 : (k : Int) < l.length := by omega
          have hk2 : (0 : Int) ≤ (k : Int) + 1 := by omega
          have hk3 : (k : Int) + 1 < l.length := by omega
          have hk4 : ((k : Int) + 1).toNat = k + 1 := by omega
          have hlen : (k : Int) < (l.length : Int) - 1 := by omega
          cases hle : Sl.less (Sl.shK.key x) (Sl.shK.key y)
          · have hb1 : Op.bytesLess (str (Sl.shK.key x)).toList (str (Sl.shK.key y)).toList = false := (bl _ _).trans hle
            have HR30 : Hid (Sl.right Sl.shK l = 30) := Sl.right_drop Sl.shK l HM.out (Sl.rises_false Sl.shK l k x y HXK.out HYK.out hle)
            clear hle
            go_wp2_with fail
            go_region_held3 (fun w' => w'.cell? ⟨g, 0, none⟩ = some (.func (.func 68) #[] #[]) ∧ w'.cell? ⟨g, 1, none⟩ = some (.func (.func 71) #[] #[]) ∧ w'.cell? ⟨g, 2, none⟩ = some (.func (.func 72) #[] #[]) ∧ w'.cell? ⟨g, 3, none⟩ = some (.nilFunc) ∧ w'.cell? ⟨b, o + k * 2, none⟩ = some (.string (str x.key)) ∧ w'.cell? ⟨b, o + k * 2 + 1, none⟩ = some (.int .u32 x.page) ∧ w'.cell? ⟨b, o + (k + 1) * 2, none⟩ = some (.string (str y.key)) ∧ w'.cell? ⟨b, o + (k + 1) * 2 + 1, none⟩ = some (.int .u32 y.page) ∧ Below (g + 1) w2 w')
              ((first | assumption | exact step8 (Nat.succ_le_of_lt hg2) ‹_› hb | exact hF.out))
              (first
              | (go_at_call 107; with_reducible refine (HX1.out _).mono ?_; rintro e w4 ⟨rfl, hb⟩)
              | (go_at_call 107; with_reducible refine (HX2.out _).mono ?_; rintro e w4 ⟨rfl, hb⟩))
            rename_i hS
            have HB4 := Lib.hid hS.2.2.2.2.2.2.2.2
            go_wp2
            go_ret
            refine ⟨ret_int HR30.out.symm, ?_⟩
            rw [HG.out]
            exact HW0.out.trans (HB4.out.mono (Nat.le_succ g))
          · have hb1 : Op.bytesLess (str (Sl.shK.key x)).toList (str (Sl.shK.key y)).toList = true := (bl _ _).trans hle
            have HNN := Lib.hid (Sl.rises_upto Sl.shK l k x y HXK.out HYK.out hle HN.out)
            clear hle
            go_wp2_with fail
            go_region_held3 (fun w' => w'.cell? ⟨g, 0, none⟩ = some (.func (.func 68) #[] #[]) ∧ w'.cell? ⟨g, 1, none⟩ = some (.func (.func 71) #[] #[]) ∧ w'.cell? ⟨g, 2, none⟩ = some (.func (.func 72) #[] #[]) ∧ w'.cell? ⟨g, 3, none⟩ = some (.nilFunc) ∧ w'.cell? ⟨b, o + k * 2, none⟩ = some (.string (str x.key)) ∧ w'.cell? ⟨b, o + k * 2 + 1, none⟩ = some (.int .u32 x.page) ∧ w'.cell? ⟨b, o + (k + 1) * 2, none⟩ = some (.string (str y.key)) ∧ w'.cell? ⟨b, o + (k + 1) * 2 + 1, none⟩ = some (.int .u32 y.page) ∧ Below (g + 1) w2 w')
              ((first | assumption | exact step8 (Nat.succ_le_of_lt hg2) ‹_› hb | exact hF.out))
              (first
              | (go_at_call 107; with_reducible refine (HX1.out _).mono ?_; rintro e w4 ⟨rfl, hb⟩)
              | (go_at_call 107; with_reducible refine (HX2.out _).mono ?_; rintro e w4 ⟨rfl, hb⟩))
            rename_i hS
            have HB4 := Lib.hid hS.2.2.2.2.2.2.2.2
            clear hS hk4 hwr
            go_wp2
            go_roundg (l.length - (k + 1))
            case measure => omega
            case rel => exact ⟨k + 1, by omega, rfl, by go_num, HNN, HB4⟩
        · have hlen : ¬ (k : Int) < (l.length : Int) - 1 := by omega
          have HR0 : Hid (Sl.right Sl.shK l = 0) := Sl.right_ok Sl.shK l HM.out (Sl.rises_all Sl.shK l fun j a b hj => HN.out j a b (by omega))
          go_wp2
          go_ret
          refine ⟨ret_int HR0.out.symm, ?_⟩
          rw [HG.out]
          exact HW0.out.trans (HB.out.mono (Nat.le_succ g))
end Go.Proofs.YtemfbkelenaaeaaGreat
