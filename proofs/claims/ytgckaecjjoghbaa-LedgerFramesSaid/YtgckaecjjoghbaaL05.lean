/- Texts of one seat, merged. -/
import Derived.Test.YtgckaecjjoghbaaL04
import Derived.Test.YtgckaecjjoghbaaL02
import Derived.Test.YtgckaecjjoghbaaL01
import Derived.Deep.LoopGhost
import Derived.Deep.DeepCutAuto
import Derived.OwnWalk
import Derived.BigQuiet
set_option maxRecDepth 100000
set_option maxHeartbeats 4000000
set_option linter.unusedVariables false
/- What stays as it was while a call goes on: cells of its own boxes, none of them frozen, and all that was there. -/
namespace Go.Proofs.Ytgckaecjjoghbaa
open Go.RowKit
open Sl (Cl Kd Nd Rn)
structure Kp (B : Nat) (w0 : World) (L : List (Addr × Value)) (w : World) : Prop where
  cell : ∀ p ∈ L, w.cell? p.1 = some p.2
  froz : ∀ p ∈ L, w.frozen? p.1 = false
  below : Below B w0 w
theorem Kp.step {B : Nat} {w0 w w' : World} {L : List (Addr × Value)} (hB : B ≤ w0.heap.size) (h : Kp B w0 L w) (hb : Below w.heap.size w w') : Kp B w0 L w' :=
  ⟨fun p hp => (hb.cell (p := p.1) (World.block_lt_of_cell? _ _ (h.cell p hp))).trans (h.cell p hp), fun p hp => (hb.frozen (p := p.1) (World.block_lt_of_cell? _ _ (h.cell p hp))).trans (h.froz p hp), h.below.trans (hb.mono (Nat.le_trans hB h.below.size))⟩
theorem Kp.drew {B : Nat} {w0 w : World} {L : List (Addr × Value)} (h : Kp B w0 L w) : Kp B w0 L w.drew := ⟨h.cell, h.froz, h.below.drew⟩
theorem stepK3 {B : Nat} {w w1 w2 : World} {L : List (Addr × Value)} {p0 p1 p2 : Addr} {x0 x1 x2 : Value} (hB : B ≤ w.heap.size) (H : w1.cell? p0 = some x0 ∧ w1.cell? p1 = some x1 ∧ w1.cell? p2 = some x2 ∧ Kp B w L w1) (hb : Below w1.heap.size w1 w2) :
    w2.cell? p0 = some x0 ∧ w2.cell? p1 = some x1 ∧ w2.cell? p2 = some x2 ∧ Kp B w L w2 := by
  obtain ⟨h0, h1, h2, hk⟩ := H
  exact ⟨(hb.cell (p := p0) (World.block_lt_of_cell? _ _ h0)).trans h0, (hb.cell (p := p1) (World.block_lt_of_cell? _ _ h1)).trans h1, (hb.cell (p := p2) (World.block_lt_of_cell? _ _ h2)).trans h2, hk.step hB hb⟩
theorem stepK5 {B : Nat} {w w1 w2 : World} {L : List (Addr × Value)} {p0 p1 p2 p3 p4 : Addr} {x0 x1 x2 x3 x4 : Value} (hB : B ≤ w.heap.size) (H : w1.cell? p0 = some x0 ∧ w1.cell? p1 = some x1 ∧ w1.cell? p2 = some x2 ∧ w1.cell? p3 = some x3 ∧ w1.cell? p4 = some x4 ∧ Kp B w L w1) (hb : Below w1.heap.size w1 w2) :
    w2.cell? p0 = some x0 ∧ w2.cell? p1 = some x1 ∧ w2.cell? p2 = some x2 ∧ w2.cell? p3 = some x3 ∧ w2.cell? p4 = some x4 ∧ Kp B w L w2 := by
  obtain ⟨h0, h1, h2, h3, h4, hk⟩ := H
  exact ⟨(hb.cell (p := p0) (World.block_lt_of_cell? _ _ h0)).trans h0, (hb.cell (p := p1) (World.block_lt_of_cell? _ _ h1)).trans h1, (hb.cell (p := p2) (World.block_lt_of_cell? _ _ h2)).trans h2, (hb.cell (p := p3) (World.block_lt_of_cell? _ _ h3)).trans h3, (hb.cell (p := p4) (World.block_lt_of_cell? _ _ h4)).trans h4, hk.step hB hb⟩
theorem stepK2 {B : Nat} {w w1 w2 : World} {L : List (Addr × Value)} {p0 p1 : Addr} {x0 x1 : Value} (hB : B ≤ w.heap.size) (H : w1.cell? p0 = some x0 ∧ w1.cell? p1 = some x1 ∧ Kp B w L w1) (hb : Below w1.heap.size w1 w2) :
    w2.cell? p0 = some x0 ∧ w2.cell? p1 = some x1 ∧ Kp B w L w2 := by
  obtain ⟨h0, h1, hk⟩ := H
  exact ⟨(hb.cell (p := p0) (World.block_lt_of_cell? _ _ h0)).trans h0, (hb.cell (p := p1) (World.block_lt_of_cell? _ _ h1)).trans h1, hk.step hB hb⟩
theorem lastK3 {B : Nat} {w w1 : World} {L : List (Addr × Value)} {p0 p1 p2 : Addr} {x0 x1 x2 : Value} (H : w1.cell? p0 = some x0 ∧ w1.cell? p1 = some x1 ∧ w1.cell? p2 = some x2 ∧ Kp B w L w1) : Below B w w1 := H.2.2.2.below
theorem lastK5 {B : Nat} {w w1 : World} {L : List (Addr × Value)} {p0 p1 p2 p3 p4 : Addr} {x0 x1 x2 x3 x4 : Value} (H : w1.cell? p0 = some x0 ∧ w1.cell? p1 = some x1 ∧ w1.cell? p2 = some x2 ∧ w1.cell? p3 = some x3 ∧ w1.cell? p4 = some x4 ∧ Kp B w L w1) : Below B w w1 := H.2.2.2.2.2.below
theorem box0 (w : World) (A B : Array Value) (S T : TypeId) (i : Nat) : ((w.alloc (.cells A S)).alloc (.cells B T)).cell? ⟨w.heap.size, i, none⟩ = A[i]? :=
  (((Below.refl _ (w.alloc (.cells A S))).alloc (Nat.le_refl _) (.cells B T)).cell (p := ⟨w.heap.size, i, none⟩) (show w.heap.size < _ by simp)).trans (World.cell?_alloc_new w A S i)
theorem box1 (w : World) (A B : Array Value) (S T : TypeId) (i : Nat) : ((w.alloc (.cells A S)).alloc (.cells B T)).cell? ⟨w.heap.size + 1, i, none⟩ = B[i]? := by
  have := World.cell?_alloc_new (w.alloc (.cells A S)) B T i
  rwa [show (w.alloc (.cells A S)).heap.size = w.heap.size + 1 by simp] at this
theorem box1f (w : World) (A B : Array Value) (S T : TypeId) (i : Nat) : ((w.alloc (.cells A S)).alloc (.cells B T)).frozen? ⟨w.heap.size + 1, i, none⟩ = false := by
  have h : ((w.alloc (.cells A S)).alloc (.cells B T)).heap[w.heap.size + 1]? = some (.cells B T (0, 0)) := by
    have := heap_alloc_new (w.alloc (.cells A S)) (.cells B T)
    rwa [show (w.alloc (.cells A S)).heap.size = w.heap.size + 1 by simp] at this
  unfold World.frozen?
  simp only [h]
  simp
theorem boxB (w : World) (A B : Obj) : Below w.heap.size w ((w.alloc A).alloc B) := ((Below.refl _ _).alloc (Nat.le_refl _) _).alloc (by simp) _
/-- The second box, whatever is in it. -/
def row1 (g : Nat) (B : Array Value) : List (Addr × Value) := (List.range B.size).map fun i => (⟨g, i, none⟩, B[i]!)
theorem startK (w : World) (A B : Array Value) (S T : TypeId) : Kp w.heap.size w (row1 (w.heap.size + 1) B) ((w.alloc (.cells A S)).alloc (.cells B T)).drew := by
  refine ⟨fun p hp => ?_, fun p hp => ?_, (boxB w _ _).drew⟩
  · obtain ⟨i, hi, rfl⟩ := List.mem_map.1 hp
    have hi' : i < B.size := List.mem_range.1 hi
    show ((w.alloc (.cells A S)).alloc (.cells B T)).cell? _ = _
    rw [box1, getElem!_pos B i hi', Array.getElem?_eq_getElem hi']
  · obtain ⟨i, hi, rfl⟩ := List.mem_map.1 hp
    exact box1f w A B S T i
def zf : Array Value := #[.int .u8 0, .int .u16 0, .int .u32 0, .int .u64 0, .string ⟨#[]⟩]
def zn : Array Value := #[.bool false, .slice none 0 0, .slice none 0 0]
def zr : Array Value := #[.bool false, .slice none 0 0]
theorem Kp.zf {B : Nat} {w0 w : World} {g : Nat} (h : Kp B w0 (row1 g zf) w) : (w.cell? ⟨g, 0, none⟩ = some (.int .u8 0) ∧ w.cell? ⟨g, 1, none⟩ = some (.int .u16 0) ∧ w.cell? ⟨g, 2, none⟩ = some (.int .u32 0) ∧ w.cell? ⟨g, 3, none⟩ = some (.int .u64 0) ∧ w.cell? ⟨g, 4, none⟩ = some (.string ⟨#[]⟩)) ∧ (w.frozen? ⟨g, 0, none⟩ = false ∧ w.frozen? ⟨g, 1, none⟩ = false ∧ w.frozen? ⟨g, 2, none⟩ = false ∧ w.frozen? ⟨g, 3, none⟩ = false ∧ w.frozen? ⟨g, 4, none⟩ = false) := by
  have hm : ∀ i, i < 5 → ((⟨g, i, none⟩ : Addr), Go.Proofs.Ytgckaecjjoghbaa.zf[i]!) ∈ row1 g Go.Proofs.Ytgckaecjjoghbaa.zf := fun i hi => List.mem_map.2 ⟨i, List.mem_range.2 hi, rfl⟩
  exact ⟨⟨h.cell _ (hm 0 (by decide)), h.cell _ (hm 1 (by decide)), h.cell _ (hm 2 (by decide)), h.cell _ (hm 3 (by decide)), h.cell _ (hm 4 (by decide))⟩, h.froz _ (hm 0 (by decide)), h.froz _ (hm 1 (by decide)), h.froz _ (hm 2 (by decide)), h.froz _ (hm 3 (by decide)), h.froz _ (hm 4 (by decide))⟩
theorem Kp.zn {B : Nat} {w0 w : World} {g : Nat} (h : Kp B w0 (row1 g zn) w) : (w.cell? ⟨g, 0, none⟩ = some (.bool false) ∧ w.cell? ⟨g, 1, none⟩ = some (.slice none 0 0) ∧ w.cell? ⟨g, 2, none⟩ = some (.slice none 0 0)) ∧ (w.frozen? ⟨g, 0, none⟩ = false ∧ w.frozen? ⟨g, 1, none⟩ = false ∧ w.frozen? ⟨g, 2, none⟩ = false) := by
  have hm : ∀ i, i < 3 → ((⟨g, i, none⟩ : Addr), Go.Proofs.Ytgckaecjjoghbaa.zn[i]!) ∈ row1 g Go.Proofs.Ytgckaecjjoghbaa.zn := fun i hi => List.mem_map.2 ⟨i, List.mem_range.2 hi, rfl⟩
  exact ⟨⟨h.cell _ (hm 0 (by decide)), h.cell _ (hm 1 (by decide)), h.cell _ (hm 2 (by decide))⟩, h.froz _ (hm 0 (by decide)), h.froz _ (hm 1 (by decide)), h.froz _ (hm 2 (by decide))⟩
theorem Kp.zr {B : Nat} {w0 w : World} {g : Nat} (h : Kp B w0 (row1 g zr) w) : (w.cell? ⟨g, 0, none⟩ = some (.bool false) ∧ w.cell? ⟨g, 1, none⟩ = some (.slice none 0 0)) ∧ (w.frozen? ⟨g, 0, none⟩ = false ∧ w.frozen? ⟨g, 1, none⟩ = false) := by
  have hm : ∀ i, i < 2 → ((⟨g, i, none⟩ : Addr), Go.Proofs.Ytgckaecjjoghbaa.zr[i]!) ∈ row1 g Go.Proofs.Ytgckaecjjoghbaa.zr := fun i hi => List.mem_map.2 ⟨i, List.mem_range.2 hi, rfl⟩
  exact ⟨⟨h.cell _ (hm 0 (by decide)), h.cell _ (hm 1 (by decide))⟩, h.froz _ (hm 0 (by decide)), h.froz _ (hm 1 (by decide))⟩
theorem below_set2 {B g : Nat} {w w1 : World} {a b : Value} (h : Below B w w1) (hg : B ≤ g) : Below B w ((w1.setCell ⟨g, 0, none⟩ a).setCell ⟨g, 1, none⟩ b) := (h.setCell (p := ⟨g, 0, none⟩) hg _).setCell (p := ⟨g, 1, none⟩) hg _
theorem below_set3 {B g : Nat} {w w1 : World} {a b c : Value} (h : Below B w w1) (hg : B ≤ g) : Below B w (((w1.setCell ⟨g, 0, none⟩ a).setCell ⟨g, 1, none⟩ b).setCell ⟨g, 2, none⟩ c) := (below_set2 h hg).setCell (p := ⟨g, 2, none⟩) hg _
theorem below_set5 {B g : Nat} {w w1 : World} {a b c d e : Value} (h : Below B w w1) (hg : B ≤ g) : Below B w (((((w1.setCell ⟨g, 0, none⟩ a).setCell ⟨g, 1, none⟩ b).setCell ⟨g, 2, none⟩ c).setCell ⟨g, 3, none⟩ d).setCell ⟨g, 4, none⟩ e) := ((below_set3 h hg).setCell (p := ⟨g, 3, none⟩) hg _).setCell (p := ⟨g, 4, none⟩) hg _
theorem Kp.both {B : Nat} {w0 w : World} {L M : List (Addr × Value)} (h : Kp B w0 L w) (k : Kp B w0 M w) : Kp B w0 (L ++ M) w :=
  ⟨fun p hp => (List.mem_append.1 hp).elim (h.cell p) (k.cell p), fun p hp => (List.mem_append.1 hp).elim (h.froz p) (k.froz p), h.below⟩
theorem Kp.left {B : Nat} {w0 w : World} {L M : List (Addr × Value)} (h : Kp B w0 (L ++ M) w) : Kp B w0 L w :=
  ⟨fun p hp => h.cell p (List.mem_append.2 (.inl hp)), fun p hp => h.froz p (List.mem_append.2 (.inl hp)), h.below⟩
theorem Kp.right {B : Nat} {w0 w : World} {L M : List (Addr × Value)} (h : Kp B w0 (L ++ M) w) : Kp B w0 M w :=
  ⟨fun p hp => h.cell p (List.mem_append.2 (.inr hp)), fun p hp => h.froz p (List.mem_append.2 (.inr hp)), h.below⟩
/-- A box that has just been laid. -/
theorem Kp.laid {B : Nat} {w0 w : World} (h : Below B w0 w) (hB : B ≤ w.heap.size) (A : Array Value) (T : TypeId) : Kp B w0 (row1 w.heap.size A) (w.alloc (.cells A T)) := by
  refine ⟨fun p hp => ?_, fun p hp => ?_, h.alloc hB _⟩
  · obtain ⟨i, hi, rfl⟩ := List.mem_map.1 hp
    have hi' : i < A.size := List.mem_range.1 hi
    show (w.alloc (.cells A T)).cell? _ = _
    rw [World.cell?_alloc_new, getElem!_pos A i hi', Array.getElem?_eq_getElem hi']
  · obtain ⟨i, hi, rfl⟩ := List.mem_map.1 hp
    exact World.frozen?_alloc_new w A T i
theorem Kp.two {B : Nat} {w0 w : World} {g : Nat} {x0 x1 : Value} (h : Kp B w0 (row1 g #[x0, x1]) w) : (w.cell? ⟨g, 0, none⟩ = some x0 ∧ w.cell? ⟨g, 1, none⟩ = some x1) ∧ (w.frozen? ⟨g, 0, none⟩ = false ∧ w.frozen? ⟨g, 1, none⟩ = false) := by
  have hm : ∀ i, i < 2 → ((⟨g, i, none⟩ : Addr), (#[x0, x1] : Array Value)[i]!) ∈ row1 g #[x0, x1] := fun i hi => List.mem_map.2 ⟨i, List.mem_range.2 hi, rfl⟩
  exact ⟨⟨h.cell _ (hm 0 (by decide)), h.cell _ (hm 1 (by decide))⟩, h.froz _ (hm 0 (by decide)), h.froz _ (hm 1 (by decide))⟩
theorem Kp.three {B : Nat} {w0 w : World} {g : Nat} {x0 x1 x2 : Value} (h : Kp B w0 (row1 g #[x0, x1, x2]) w) : (w.cell? ⟨g, 0, none⟩ = some x0 ∧ w.cell? ⟨g, 1, none⟩ = some x1 ∧ w.cell? ⟨g, 2, none⟩ = some x2) ∧ (w.frozen? ⟨g, 0, none⟩ = false ∧ w.frozen? ⟨g, 1, none⟩ = false ∧ w.frozen? ⟨g, 2, none⟩ = false) := by
  have hm : ∀ i, i < 3 → ((⟨g, i, none⟩ : Addr), (#[x0, x1, x2] : Array Value)[i]!) ∈ row1 g #[x0, x1, x2] := fun i hi => List.mem_map.2 ⟨i, List.mem_range.2 hi, rfl⟩
  exact ⟨⟨h.cell _ (hm 0 (by decide)), h.cell _ (hm 1 (by decide)), h.cell _ (hm 2 (by decide))⟩, h.froz _ (hm 0 (by decide)), h.froz _ (hm 1 (by decide)), h.froz _ (hm 2 (by decide))⟩
theorem Kp.set {B : Nat} {w0 w : World} {L : List (Addr × Value)} (h : Kp B w0 L w) {p : Addr} (hp : ∀ q ∈ L, q.1 ≠ p) (hB : B ≤ p.block) (x : Value) : Kp B w0 L (w.setCell p x) :=
  ⟨fun q hq => (World.cell?_setCell_other _ _ _ _ (Ne.symm (hp q hq))).trans (h.cell q hq), fun q hq => (World.frozen?_setCell _ _ _ _).trans (h.froz q hq), h.below.setCell hB _⟩
end Go.Proofs.Ytgckaecjjoghbaa
/- Rows of a ledger's frames as the walk reads them; the law's own example of a ledger. -/
namespace Go.Proofs.Ytgckaecjjoghbaa
open Go.RowKit
open Ld (En)
def SlG (w : World) (b o : Nat) (l : List Ld.Fr) : Prop :=
  ∀ (j : Nat) x, l[j]? = some x → w.cell? ⟨b, o + j * 5, none⟩ = some (.int .u8 5) ∧ w.cell? ⟨b, o + j * 5 + 1, none⟩ = some (.int .u16 x.count) ∧ w.cell? ⟨b, o + j * 5 + 2, none⟩ = some (.int .u32 x.id) ∧ w.cell? ⟨b, o + j * 5 + 3, none⟩ = some (.int .u64 x.tx) ∧ w.cell? ⟨b, o + j * 5 + 4, none⟩ = some (.string (str x.body))
theorem SlG.below {w w' : World} {b o : Nat} {l : List Ld.Fr} (hx : SlG w b o l) (hb : Below w.heap.size w w') : SlG w' b o l := by
  intro j x hj
  obtain ⟨h0, h1, h2, h3, h4⟩ := hx j x hj
  have hlt := World.block_lt_of_cell? _ _ h0
  exact ⟨(hb.cell (p := ⟨b, o + j * 5, none⟩) hlt).trans h0, (hb.cell (p := ⟨b, o + j * 5 + 1, none⟩) hlt).trans h1, (hb.cell (p := ⟨b, o + j * 5 + 2, none⟩) hlt).trans h2, (hb.cell (p := ⟨b, o + j * 5 + 3, none⟩) hlt).trans h3, (hb.cell (p := ⟨b, o + j * 5 + 4, none⟩) hlt).trans h4⟩
theorem slG_own {w : World} {B : Nat} {e : TypeId} {v : Value} {l : List Ld.Fr} (h : w.ownsRow B e 5 v l.length (l.flatMap cellsL)) : ∃ (a : Option Addr) (b o c : Nat), v = .slice a l.length c ∧ (l = [] ∨ a = some ⟨b, o, none⟩) ∧ SlG w b o l := by
  have hw := h
  obtain ⟨_, h1⟩ := h
  rcases h1 with ⟨rfl, h0⟩ | ⟨g, cap, cur, rfl, _⟩
  · obtain rfl : l = [] := List.length_eq_zero_iff.1 h0
    exact ⟨none, 0, 0, 0, rfl, .inl rfl, fun j p hj => by simp at hj⟩
  · refine ⟨_, g, 0, cap, rfl, .inr rfl, fun j p hj => ?_⟩
    have hlt := (List.getElem?_eq_some_iff.1 hj).1
    have c := fun i (hi : i < 5) => (hw.cellAt (j * 5 + i) (by omega)).trans (flat_at cellsL 5 cellsL_len l j i p hj hi)
    refine ⟨?_, ?_, ?_, ?_, ?_⟩
    · have := c 0 (by omega); simpa [cellsL] using this
    · have := c 1 (by omega); simpa [cellsL, Nat.add_assoc] using this
    · have := c 2 (by omega); simpa [cellsL, Nat.add_assoc] using this
    · have := c 3 (by omega); simpa [cellsL, Nat.add_assoc] using this
    · have := c 4 (by omega); simpa [cellsL, Nat.add_assoc] using this
/-- What the law needs of an answer. -/
inductive LdGot (E : Int) (L : List Ld.Fr) (W : World) (e : Ending) (w' : World) : Prop
  | mk (a : Option Addr) (b o c : Nat) (he : e = .returned (.tuple #[.slice a L.length c, .int .i64 E])) (ha : L = [] ∨ a = some ⟨b, o, none⟩) (hx : SlG w' b o L) (hb : Below W.heap.size W w')
theorem LdOut.toGot {T : TypeId} {ids : List Nat} {tx : Nat} {s : List En} {w : World} {e : Ending} {w' : World} (h : LdOut T ids tx s w e w') : LdGot (Ld.err ids s) (if Ld.err ids s = 0 then Ld.frs ids tx s ids.length else []) w e w' := by
  rcases h with ⟨h, he, hb⟩ | ⟨v, h, he, hv, hb⟩
  · rw [if_neg h]
    exact ⟨none, 0, 0, 0, he, .inl rfl, fun j p hj => by simp at hj, hb⟩
  · rw [if_pos h]
    obtain ⟨a, b, o, c, rfl, ha, hx⟩ := slG_own (e := T) hv
    exact ⟨a, b, o, c, by rw [h]; exact he, ha, hx, hb⟩
theorem ex_ld : Ld.err [2] [⟨1, 9⟩] = 0 ∧ (if Ld.err [2] [⟨1, 9⟩] = 0 then Ld.frs [2] 3 [⟨1, 9⟩] ([2] : List Nat).length else []) = [Ld.frAt [2] 3 [⟨1, 9⟩] 0 2] := ⟨rfl, rfl⟩
theorem ldAwake_any (w : World) : Calls Try.prog 22 #[] w fun e w' => e = .returned (.bool true) ∧ Below w.heap.size w w' := by
  have HF : Hid (∀ W v vi (hv : SlE W v [⟨1, 9⟩]) (hc : Cap v) (hi : SlN W vi [2]), Calls Try.prog 24 #[v, vi, .int .u64 3] W (LdGot 0 [Ld.frAt [2] 3 [⟨1, 9⟩] 0 2] W)) := fun W v vi hv hc hi => by
    refine (ldFrames_any v vi [⟨1, 9⟩] [2] 3 (by decide) (by decide) (by decide) (by intro x hx; simp at hx; subst hx; exact ⟨by decide, by decide⟩) W hv hc hi).mono fun e w' h => ?_
    have := h.toGot
    rw [ex_ld.2, ex_ld.1] at this
    exact this
  have HV : Hid (SlE ((w.alloc (.cells #[.int .u64 1, .int .u32 9] 62)).alloc (.cells #[.int .u32 2] 24)) (.slice (some ⟨w.heap.size, 0, none⟩) 1 1) [⟨1, 9⟩]) := by
    refine ⟨_, w.heap.size, 0, 1, rfl, .inr rfl, fun j z hj => ?_⟩
    have hj2 : j < 1 := (List.getElem?_eq_some_iff.1 hj).1
    obtain rfl : j = 0 := by omega
    simp at hj; subst hj
    exact ⟨box0 w #[.int .u64 1, .int .u32 9] #[.int .u32 2] 62 24 0, box0 w #[.int .u64 1, .int .u32 9] #[.int .u32 2] 62 24 1⟩
  have HI : Hid (SlN ((w.alloc (.cells #[.int .u64 1, .int .u32 9] 62)).alloc (.cells #[.int .u32 2] 24)) (.slice (some ⟨w.heap.size + 1, 0, none⟩) 1 1) [2]) := by
    refine ⟨_, w.heap.size + 1, 0, 1, rfl, .inr rfl, fun j z hj => ?_⟩
    have hj2 : j < 1 := (List.getElem?_eq_some_iff.1 hj).1
    obtain rfl : j = 0 := by omega
    simp at hj; subst hj
    exact box1 w #[.int .u64 1, .int .u32 9] #[.int .u32 2] 62 24 0
  have HC : Hid (Cap (.slice (some ⟨w.heap.size, 0, none⟩) 1 1)) := ⟨_, 1, 1, Nat.le_refl _, by decide, fun h => by cases h⟩
  have HB : Hid (Below w.heap.size w ((w.alloc (.cells #[.int .u64 1, .int .u32 9] 62)).alloc (.cells #[.int .u32 2] 24))) := boxB w _ _
  have HN1 : Hid (∀ W, Calls Try.prog 31 #[.int .i64 339] W fun e w' => e = .returned (.int .i64 1) ∧ W = w') := fun W => ldNeed_any 339 (by decide) (by decide) W
  have HN2 : Hid (∀ W, Calls Try.prog 31 #[.int .i64 340] W fun e w' => e = .returned (.int .i64 2) ∧ W = w') := fun W => ldNeed_any 340 (by decide) (by decide) W
  go_enter Try.func22, Try.ntmps22
  go_wp2_with (first
    | (go_at_call 24; refine (HF.out _ _ _ HV.out HC.out HI.out).mono ?_; rintro e w1 ⟨a, b, o, c, rfl, ha, hx, hb⟩; have ha2 := ha.resolve_left (by simp); subst ha2; obtain ⟨c0, c1, c2, c3, c4⟩ := hx 0 _ rfl; change _ = some (Value.int .u16 1) at c1; have HB1 := Lib.hid (HB.out.trans (hb.mono HB.out.size)); clear hb hx ha)
    | (go_at_call 31; (with_reducible refine (HN1.out _).mono ?_); rintro e w3 ⟨rfl, rfl⟩)
    | (go_at_call 31; (with_reducible refine (HN2.out _).mono ?_); rintro e w4 ⟨rfl, rfl⟩))
  go_ret
  exact ⟨rfl, HB1.out⟩
end Go.Proofs.Ytgckaecjjoghbaa
/- The contract of entries as the document's. -/
namespace Go.Proofs.Ytgckaecjjoghbaa
open Go.RowKit
open Ld (En)
theorem twoL (W : World) (T : TypeId) (a0 a1 : Value) : ∀ j u, ([a0, a1] : List Value)[j]? = some u → (W.alloc (.cells #[a0, a1] T)).cell? ((⟨W.heap.size, 0, none⟩ : Addr).add j) = some u := by
  intro j u hj
  rw [add_plain', Nat.zero_add, World.cell?_alloc_new]
  simpa using hj
theorem ldTo_any (v : Value) (l : List En) (hl : l.length ≤ 100000) (w : World) (hv : SlE w v l) :
    Calls Try.prog 26 #[v] w (OwnRE l w) := by
  obtain ⟨i0, hi, hz0, hz1, hz2⟩ := info_parts infoRE
  obtain ⟨a, b, o, c, rfl, ha, hx⟩ := hv
  have HX := Lib.hid hx
  have HA := Lib.hid ha
  clear ha hx
  go_enter Try.func26, Try.ntmps26
  go_wp2
  go_loopg [3, 8] l.length (fun n sv i wr => ∃ (k : Nat) (u : Value), k ≤ l.length ∧ n = l.length - k ∧ i = .int .i64 (k : Nat) ∧ u = sv ∧ Hid (RowE 90 wr w.heap.size u (l.take k)) ∧ Hid (Below w.heap.size w wr))
  case atStart => exact ⟨0, _, Nat.zero_le _, rfl, rfl, rfl, World.ownsRow_nil _ _ _ _, Below.refl _ _⟩
  case round =>
    obtain ⟨k, u, hk, rfl, rfl, rfl, HR, HB⟩ := hrel
    by_cases hlt : k < l.length
    · obtain ⟨x, hx⟩ := some_at hlt
      obtain rfl : a = some ⟨b, o, none⟩ := HA.out.resolve_left (by intro h; rw [h] at hlt; cases hlt)
      obtain ⟨e0, e1⟩ := HX.out k x hx
      have hblt : b < w.heap.size := World.block_lt_of_cell? _ _ e0
      have d0 := (HB.out.cell (p := ⟨b, o + k * 2, none⟩) hblt).trans e0
      have d1 := (HB.out.cell (p := ⟨b, o + k * 2 + 1, none⟩) hblt).trans e1
      have HT := Lib.hid (Ld.take_snoc hx)
      have HLN : Hid ((l.take k).length ≤ 100000) := by show _ ≤ _; rw [List.length_take]; omega
      obtain ⟨xt, xp⟩ := x
      clear e0 e1 hx hblt
      go_upto_region 5 with fail
      have HR1 : Hid (RowE 90 (wr.alloc (.cells #[.int .u64 xt, .int .u32 xp] 62)) w.heap.size u (l.take k)) := HR.out.alloc _
      have HB1 : Hid (Below w.heap.size w (wr.alloc (.cells #[.int .u64 xt, .int .u32 xp] 62))) := HB.out.alloc HB.out.size _
      have q0 : (wr.alloc (.cells #[.int .u64 xt, .int .u32 xp] 62)).cell? ⟨wr.heap.size, 0, none⟩ = some (.int .u64 xt) := World.cell?_alloc_new _ _ _ 0
      have q1 : (wr.alloc (.cells #[.int .u64 xt, .int .u32 xp] 62)).cell? ⟨wr.heap.size, 1, none⟩ = some (.int .u32 xp) := World.cell?_alloc_new _ _ _ 1
      generalize (wr.alloc (.cells #[.int .u64 xt, .int .u32 xp] 62)) = W1 at HR1 HB1 q0 q1 ⊢
      generalize wr.heap.size = q at q0 q1 ⊢
      generalize l.take k = M at HR1 HT HLN
      have hln := HLN.out
      have hbs := HB1.out.size
      clear d0 d1 HR HB
      go_wp2_with (at_builtin; refine wpList_append_own _ rfl _ _ 56 rfl w.heap.size 90 i0 _ 2 16 Try.underlying56 hi hz0 hz1 hz2 rfl (by decide) _ (M.length) _ rfl (HR1.out.alloc _) ⟨W1.heap.size, 0, none⟩ 1 1 [.int .u64 xt, .int .u32 xp] rfl rfl (twoL _ _ _ _) (by first | rfl | (intro z hz; simp at hz; rcases hz with rfl | rfl <;> rfl)) (by first | omega | (simp; omega) | (unfold maxLen; simp; omega) | (unfold maxLen; omega)) (by first | omega | (simp; omega)) (by first | omega | (simp; omega)) ?_; intro v4 w4 hown' hgrow _; have HR4 : Hid (RowE 90 w4 w.heap.size v4 (M ++ [⟨xt, xp⟩])) := (by show World.ownsRow _ _ _ _ _ _ _; rw [List.flatMap_append, List.length_append, List.flatMap_cons, List.flatMap_nil, List.append_nil]; exact hown'); have HB4 : Hid (Below w.heap.size w w4) := (HB1.out.alloc HB1.out.size _).grown hgrow (by simp; omega) (fun g hg => (HR1.out.lt g hg).1); have sHB4 := HB4.out.size; obtain ⟨a_HR4, c_HR4, hv_HR4⟩ : ∃ a c, v4 = .slice a (M.length + 1) c := (by obtain ⟨a, c, h⟩ := HR4.out.slice; exact ⟨a, c, by rw [h]; simp⟩); subst hv_HR4; clear hown' hgrow)
      go_roundg (l.length - (k + 1))
      case measure => omega
      case rel => exact ⟨k + 1, _, hlt, rfl, by go_num, rfl, by show RowE _ _ _ _ _; rw [HT.out]; exact HR4.out, HB4⟩
    · have hkk : k = l.length := by omega
      have HR5 : Hid (RowE 90 wr w.heap.size u l) := by
        have h := HR.out
        rw [hkk, List.take_length] at h
        exact h
      obtain ⟨a5, c5, rfl⟩ := HR5.out.slice
      go_wp2
      go_ret
      exact ⟨_, rfl, HR5.out, HB.out⟩
end Go.Proofs.Ytgckaecjjoghbaa
/- The contract of the law's own many entries. -/
namespace Go.Proofs.Ytgckaecjjoghbaa
open Go.RowKit
open Ld (En)
theorem ldMany_any (n tx : Nat) (hn : n < 65536) (htx : tx < 18446744073709551616) (w : World) :
    Calls Try.prog 23 #[.int .u16 n, .int .u64 tx] w fun e w' => ∃ (v : Value) (l : List En), e = .returned v ∧ l.length ≤ 800 ∧ okE l ∧ RowE 62 w' w.heap.size v l ∧ Below w.heap.size w w' := by
  obtain ⟨i0, hi, hz0, hz1, hz2⟩ := info_parts infoE
  obtain ⟨r, hr⟩ : ∃ r : Nat, r = n % 800 := ⟨_, rfl⟩
  have hr8 : r < 800 := by omega
  have hrm : (n : Int).tmod 800 = (r : Int) := by rw [Int.tmod_eq_emod_of_nonneg (by omega)]; omega
  have hw16 : IntKind.u16.wrap (r : Int) = r := by rw [IntKind.wrap_u16]; omega
  have hw64 : IntKind.i64.wrap (r : Int) = r := IntWalk.i64_in _ (by omega)
  obtain ⟨T, hT⟩ : ∃ T : Nat, T = tx % 1000 := ⟨_, rfl⟩
  have hT3 : T < 1000 := by omega
  have hTm : (tx : Int).tmod 1000 = (T : Int) := by rw [Int.tmod_eq_emod_of_nonneg (by omega)]; omega
  have hTw : IntKind.u64.wrap (T : Int) = T := by rw [IntKind.wrap_u64]; omega
  clear hr hT
  go_enter Try.func23, Try.ntmps23
  go_wp2
  go_loopg [5, 10] r (fun m sv i wr => ∃ (l : List En) (u : Value), l.length ≤ r ∧ m = r - l.length ∧ i = .int .i64 (l.length : Nat) ∧ u = sv ∧ Hid (okE l) ∧ Hid (RowE 62 wr w.heap.size u l) ∧ Hid (Below w.heap.size w wr))
  case atStart => exact ⟨[], _, Nat.zero_le _, rfl, rfl, rfl, (fun x hx => by simp at hx), World.ownsRow_nil _ _ _ _, Below.refl _ _⟩
  case round =>
    obtain ⟨M, u, hk, rfl, rfl, rfl, HOK, HR, HB⟩ := hrel
    by_cases hlt : M.length < r
    · have hlt' : (M.length : Int) < (r : Int) := by omega
      have hq : (M.length : Int).tdiv 7 = ((M.length / 7 : Nat) : Int) := by rw [Int.tdiv_eq_ediv_of_nonneg (by omega)]; omega
      obtain ⟨Q, hQ⟩ : ∃ Q : Nat, Q = M.length / 7 := ⟨_, rfl⟩
      rw [← hQ] at hq
      have hQ2 : Q ≤ 800 := by omega
      have hwq : IntKind.i64.wrap (Q : Int) = Q := IntWalk.i64_in _ (by omega)
      have hwq2 : IntKind.u64.wrap (Q : Int) = Q := by rw [IntKind.wrap_u64]; omega
      have hwt : IntKind.u64.wrap ((T : Int) + (Q : Int)) = ((T + Q : Nat) : Int) := by rw [IntKind.wrap_u64]; omega
      have hw2 : IntKind.i64.wrap (2 + (M.length : Int)) = ((2 + M.length : Nat) : Int) := by rw [IntWalk.i64_in _ (by omega)]; omega
      have hw3 : IntKind.u32.wrap ((2 + M.length : Nat) : Int) = ((2 + M.length : Nat) : Int) := by rw [IntKind.wrap_u32]; omega
      obtain ⟨E0, hE0⟩ : ∃ E : Nat, E = T + Q := ⟨_, rfl⟩
      obtain ⟨E1, hE1⟩ : ∃ E : Nat, E = 2 + M.length := ⟨_, rfl⟩
      rw [← hE0] at hwt
      rw [← hE1] at hw2 hw3
      have hEE : E0 < 18446744073709551616 ∧ E1 < 4294967296 := by omega
      have HEE := Lib.hid hEE
      clear hQ hE0 hE1 hEE
      have hln : M.length ≤ 1000 := by omega
      have hbs := HB.out.size
      go_wp2_with (at_builtin; refine wpList_append_own _ rfl _ _ 45 rfl w.heap.size 62 i0 _ 2 16 Try.underlying45 hi hz0 hz1 hz2 rfl (by decide) _ (M.length) _ rfl (HR.out.alloc _) ⟨wr.heap.size, 0, none⟩ 1 1 [.int .u64 E0, .int .u32 E1] rfl rfl (twoL _ _ _ _) (by first | rfl | (intro z hz; simp at hz; rcases hz with rfl | rfl <;> rfl)) (by first | omega | (simp; omega) | (unfold maxLen; simp; omega) | (unfold maxLen; omega)) (by first | omega | (simp; omega)) (by first | omega | (simp; omega)) ?_; intro v4 w4 hown' hgrow _; have HR4 : Hid (RowE 62 w4 w.heap.size v4 (M ++ [⟨E0, E1⟩])) := (by show World.ownsRow _ _ _ _ _ _ _; rw [List.flatMap_append, List.length_append, List.flatMap_cons, List.flatMap_nil, List.append_nil]; exact hown'); have HB4 : Hid (Below w.heap.size w w4) := (HB.out.alloc HB.out.size _).grown hgrow (by simp; omega) (fun g hg => (HR.out.lt g hg).1); have sHB4 := HB4.out.size; obtain ⟨a_HR4, c_HR4, hv_HR4⟩ : ∃ a c, v4 = .slice a (M.length + 1) c := (by obtain ⟨a, c, h⟩ := HR4.out.slice; exact ⟨a, c, by rw [h]; simp⟩); subst hv_HR4; clear hown' hgrow)
      go_roundg (r - (M.length + 1))
      case measure => omega
      case rel => exact ⟨M ++ [(⟨E0, E1⟩ : En)], _, by rw [List.length_append]; exact hlt, by rw [List.length_append]; rfl, by rw [List.length_append]; go_num, rfl, (fun x hx => by rcases List.mem_append.1 hx with h | h; exact HOK.out x h; simp at h; subst h; exact HEE.out), HR4, HB4⟩
    · have hlt' : ¬ (M.length : Int) < (r : Int) := by omega
      obtain ⟨a5, c5, rfl⟩ := HR.out.slice
      have hr9 := hk
      go_wp2
      go_ret
      exact ⟨_, rfl, M, by omega, HOK.out, HR.out, HB.out⟩
end Go.Proofs.Ytgckaecjjoghbaa
/- The document's answers of sets of numbers: With, Of, Same. -/
namespace Go.Proofs.Ytgckaecjjoghbaa
open Go.RowKit
theorem RowN.base {w : World} {B B' : Nat} {v : Value} {l : List Nat} (h : RowN w B v l) (hb : B' ≤ B) : RowN w B' v l := by
  obtain ⟨h0, h1⟩ := h
  refine ⟨h0, ?_⟩
  rcases h1 with h1 | ⟨g, cap, cur, hv, hB, hg, h2, h3, h4, h5⟩
  · exact .inl h1
  · exact .inr ⟨g, cap, cur, hv, Nat.le_trans hb hB, hg, h2, h3, h4, h5⟩
theorem psWith_any (v : Value) (l : List Nat) (x : Nat) (hl : l.length ≤ 100000) (w : World) (hv : SlN w v l) :
    Calls Try.prog 10 #[v, .int .u32 x] w fun e w' => ∃ v', e = .returned v' ∧ RowN w' w.heap.size v' (Ps.withL l x) ∧ Below w.heap.size w w' := by
  obtain ⟨i0, hi, hz0, hz1, hz2⟩ := info_parts infoN
  have HWO := Lib.hid (psWithout_any v l x hl w hv)
  have HWL : Hid (Ps.withL l x = if (Ps.run x (Ps.without l x)).2 then (Ps.run x (Ps.without l x)).1 else (Ps.run x (Ps.without l x)).1 ++ [x]) := rfl
  have HLM : Hid ((Ps.without l x).length ≤ 100000) := Nat.le_trans (Ps.without_len l x) hl
  generalize Ps.withL l x = RR at HWL ⊢
  generalize Ps.without l x = m at HWO HWL HLM
  obtain ⟨a, c, rfl⟩ : ∃ a c, v = .slice a l.length c := by
    obtain ⟨a, _, _, c, rfl, _⟩ := hv
    exact ⟨a, c, rfl⟩
  clear hv
  go_enter Try.func10, Try.ntmps10
  go_wp2_with (go_at_call 12; refine HWO.out.mono ?_; rintro e w1 ⟨v1, rfl, hr1, hb1⟩; have HR1 := Lib.hid hr1; have HB1 := Lib.hid hb1; obtain ⟨a1, c1, rfl⟩ := hr1.slice; clear hr1 hb1)
  obtain ⟨a2, b2, o2, c2, he, ha2, hx2⟩ := HR1.out.sl
  obtain rfl : a1 = a2 := by cases he; rfl
  have HA := Lib.hid ha2
  have HX := Lib.hid hx2
  have hlm := HLM.out
  clear he ha2 hx2
  go_loopg [5, 6, 13] m.length (fun n sv dv i wr => ∃ (k : Nat) (u : Value) (d : Bool), k ≤ m.length ∧ n = m.length - k ∧ i = .int .i64 (k : Nat) ∧ u = sv ∧ dv = .bool d ∧ Hid ((Ps.run x (m.take k)).2 = d) ∧ Hid (RowN wr w1.heap.size u (Ps.run x (m.take k)).1) ∧ Hid (Below w1.heap.size w1 wr))
  case atStart => exact ⟨0, _, false, Nat.zero_le _, rfl, rfl, rfl, rfl, rfl, World.ownsRow_nil _ _ _ _, Below.refl _ _⟩
  case round =>
    obtain ⟨k, u, d, hk, rfl, rfl, rfl, rfl, HD, HR, HB⟩ := hrel
    have HLN : Hid ((Ps.run x (m.take k)).1.length ≤ 100001) := by
      have h1 := Ps.run_len x (m.take k)
      rw [List.length_take] at h1
      show _ ≤ _
      cases hd : (Ps.run x (m.take k)).2 <;> simp [hd] at h1 <;> omega
    by_cases hlt : k < m.length
    · obtain ⟨y, hy⟩ := has_of hlt
      obtain rfl : a1 = some ⟨b2, o2, none⟩ := HA.out.resolve_left (by intro h; rw [h] at hlt; cases hlt)
      have e0 := HX.out k y hy
      have d0 := (HB.out.cell (p := ⟨b2, o2 + k, none⟩) (World.block_lt_of_cell? _ _ e0)).trans e0
      have HS := Lib.hid (Ps.run_take x hy)
      clear e0 hy
      have HST : Hid (Ps.step x (Ps.run x (m.take k)) y = if !d && decide (x < y) then ((Ps.run x (m.take k)).1 ++ [x] ++ [y], true) else ((Ps.run x (m.take k)).1 ++ [y], d)) := by
        show _ = _
        unfold Ps.step
        rw [HD.out]
      generalize Ps.step x (Ps.run x (m.take k)) y = NS at HS HST
      generalize (Ps.run x (m.take k)).1 = M at HR HLN HST
      have hln := HLN.out
      have hbs := HB.out.size
      cases d with
      | true =>
        have hns : NS = (M ++ [y], true) := HST.out
        have HNS := Lib.hid hns
        clear hns
        go_wp2_with (at_builtin; refine wpList_append_own _ rfl _ _ 22 rfl w1.heap.size 24 i0 _ 1 4 Try.underlying22 hi hz0 hz1 hz2 rfl (by decide) _ M.length _ rfl (HR.out.alloc _) ⟨wr.heap.size, 0, none⟩ 1 1 [.int .u32 (y : Nat)] rfl rfl (fun j z hj => by rw [add_at]; exact (World.cell?_alloc_new _ _ _ j).trans (by simpa using hj)) (by intro z hz; simp at hz; subst hz; rfl) (by first | omega | (simp; omega) | (unfold maxLen; simp; omega) | (unfold maxLen; omega)) (by first | omega | (simp; omega)) (by first | omega | (simp; omega)) ?_; intro v4 w4 hown' hgrow _; have HR4 : Hid (RowN w4 w1.heap.size v4 (M ++ [y])) := (by show w4.ownsRow _ _ _ _ _ _; rw [List.length_append, List.map_append]; simpa [num] using hown'); have HB4 : Hid (Below w1.heap.size w1 w4) := (HB.out.alloc HB.out.size _).grown hgrow (by simp; omega) (fun g hg => (HR.out.lt g hg).1); have sHB4 := HB4.out.size; obtain ⟨a_HR4, c_HR4, hv_HR4⟩ : ∃ a c, v4 = .slice a (M.length + 1) c := (by obtain ⟨a, c, h⟩ := HR4.out.slice; exact ⟨a, c, by rw [h]; simp⟩); subst hv_HR4; clear hown' hgrow)
        go_roundg (m.length - (k + 1))
        case measure => omega
        case rel => exact ⟨k + 1, _, true, hlt, rfl, by go_num, rfl, rfl, by show _ = _; rw [HS.out, HNS.out], by show RowN _ _ _ _; rw [HS.out, HNS.out]; exact HR4.out, HB4⟩
      | false =>
        by_cases hxy : x < y
        · have hlt2 : (x : Int) < (y : Int) := by omega
          have hns : NS = (M ++ [x] ++ [y], true) := by rw [HST.out, decide_eq_true hxy]; rfl
          have HNS := Lib.hid hns
          clear hns hxy
          go_upto_region 9 with (at_builtin; refine wpList_append_own _ rfl _ _ 22 rfl w1.heap.size 24 i0 _ 1 4 Try.underlying22 hi hz0 hz1 hz2 rfl (by decide) _ M.length _ rfl (HR.out.alloc _) ⟨wr.heap.size, 0, none⟩ 1 1 [.int .u32 (x : Nat)] rfl rfl (fun j z hj => by rw [add_at]; exact (World.cell?_alloc_new _ _ _ j).trans (by simpa using hj)) (by intro z hz; simp at hz; subst hz; rfl) (by first | omega | (simp; omega) | (unfold maxLen; simp; omega) | (unfold maxLen; omega)) (by first | omega | (simp; omega)) (by first | omega | (simp; omega)) ?_; intro v4 w4 hown' hgrow _; have HR4 : Hid (RowN w4 w1.heap.size v4 (M ++ [x])) := (by show w4.ownsRow _ _ _ _ _ _; rw [List.length_append, List.map_append]; simpa [num] using hown'); have HO4 : Hid (w4.ownsRow w1.heap.size 24 1 v4 (M.length + 1) ((M ++ [x]).map num)) := (by show w4.ownsRow _ _ _ _ _ _; rw [List.map_append]; simpa [num] using hown'); have HB4 : Hid (Below w1.heap.size w1 w4) := (HB.out.alloc HB.out.size _).grown hgrow (by simp; omega) (fun g hg => (HR.out.lt g hg).1); have sHB4 := HB4.out.size; clear hown' hgrow)
          go_wp2_with (at_builtin; refine wpList_append_own _ rfl _ _ 22 rfl w1.heap.size 24 i0 _ 1 4 Try.underlying22 hi hz0 hz1 hz2 rfl (by decide) _ (M.length + 1) _ rfl (HO4.out.alloc _) ⟨w4.heap.size, 0, none⟩ 1 1 [.int .u32 (y : Nat)] rfl rfl (fun j z hj => by rw [add_at]; exact (World.cell?_alloc_new _ _ _ j).trans (by simpa using hj)) (by intro z hz; simp at hz; subst hz; rfl) (by first | omega | (simp; omega) | (unfold maxLen; simp; omega) | (unfold maxLen; omega)) (by first | omega | (simp; omega)) (by first | omega | (simp; omega)) ?_; intro v5 w5 hown' hgrow _; have HR5 : Hid (RowN w5 w1.heap.size v5 (M ++ [x] ++ [y])) := (by show w5.ownsRow _ _ _ _ _ _; rw [List.length_append, List.length_append, List.map_append]; simpa [num] using hown'); have HB5 : Hid (Below w1.heap.size w1 w5) := (HB4.out.alloc HB4.out.size _).grown hgrow (by simp; omega) (fun g hg => (HR4.out.lt g hg).1); have sHB5 := HB5.out.size; clear hown' hgrow)
          go_roundg (m.length - (k + 1))
          case measure => omega
          case rel => exact ⟨k + 1, _, true, hlt, rfl, by go_num, rfl, rfl, by show _ = _; rw [HS.out, HNS.out], by show RowN _ _ _ _; rw [HS.out, HNS.out]; exact HR5.out, HB5⟩
        · have hlt2 : ¬ (x : Int) < (y : Int) := by omega
          have hns : NS = (M ++ [y], false) := by rw [HST.out, decide_eq_false hxy]; rfl
          have HNS := Lib.hid hns
          clear hns hxy
          go_wp2_with (at_builtin; refine wpList_append_own _ rfl _ _ 22 rfl w1.heap.size 24 i0 _ 1 4 Try.underlying22 hi hz0 hz1 hz2 rfl (by decide) _ M.length _ rfl (HR.out.alloc _) ⟨wr.heap.size, 0, none⟩ 1 1 [.int .u32 (y : Nat)] rfl rfl (fun j z hj => by rw [add_at]; exact (World.cell?_alloc_new _ _ _ j).trans (by simpa using hj)) (by intro z hz; simp at hz; subst hz; rfl) (by first | omega | (simp; omega) | (unfold maxLen; simp; omega) | (unfold maxLen; omega)) (by first | omega | (simp; omega)) (by first | omega | (simp; omega)) ?_; intro v4 w4 hown' hgrow _; have HR4 : Hid (RowN w4 w1.heap.size v4 (M ++ [y])) := (by show w4.ownsRow _ _ _ _ _ _; rw [List.length_append, List.map_append]; simpa [num] using hown'); have HB4 : Hid (Below w1.heap.size w1 w4) := (HB.out.alloc HB.out.size _).grown hgrow (by simp; omega) (fun g hg => (HR.out.lt g hg).1); have sHB4 := HB4.out.size; obtain ⟨a_HR4, c_HR4, hv_HR4⟩ : ∃ a c, v4 = .slice a (M.length + 1) c := (by obtain ⟨a, c, h⟩ := HR4.out.slice; exact ⟨a, c, by rw [h]; simp⟩); subst hv_HR4; clear hown' hgrow)
          go_roundg (m.length - (k + 1))
          case measure => omega
          case rel => exact ⟨k + 1, _, false, hlt, rfl, by go_num, rfl, rfl, by show _ = _; rw [HS.out, HNS.out], by show RowN _ _ _ _; rw [HS.out, HNS.out]; exact HR4.out, HB4⟩
    · have hkk : k = m.length := by omega
      have HD5 : Hid ((Ps.run x m).2 = d) := by
        have h := HD.out
        rw [hkk, List.take_length] at h
        exact h
      have HR5 : Hid (RowN wr w1.heap.size u (Ps.run x m).1) := by
        have h := HR.out
        rw [hkk, List.take_length] at h
        exact h
      rw [hkk, List.take_length] at HLN
      have hln := HLN.out
      have hbs := HB.out.size
      cases d with
      | true =>
        have hw : RR = (Ps.run x m).1 := by rw [HWL.out, HD5.out]; rfl
        have HW := Lib.hid hw
        obtain ⟨a5, c5, rfl⟩ := HR5.out.slice
        clear hw
        go_wp2
        go_ret
        exact ⟨_, rfl, by rw [HW.out]; exact HR5.out.base HB1.out.size, HB1.out.trans (HB.out.mono HB1.out.size)⟩
      | false =>
        have hw : RR = (Ps.run x m).1 ++ [x] := by rw [HWL.out, HD5.out]; rfl
        have HW := Lib.hid hw
        generalize (Ps.run x m).1 = M at HR5 hln HW
        clear hw
        go_wp2_with (at_builtin; refine wpList_append_own _ rfl _ _ 22 rfl w1.heap.size 24 i0 _ 1 4 Try.underlying22 hi hz0 hz1 hz2 rfl (by decide) _ M.length _ rfl (HR5.out.alloc _) ⟨wr.heap.size, 0, none⟩ 1 1 [.int .u32 (x : Nat)] rfl rfl (fun j z hj => by rw [add_at]; exact (World.cell?_alloc_new _ _ _ j).trans (by simpa using hj)) (by intro z hz; simp at hz; subst hz; rfl) (by first | omega | (simp; omega) | (unfold maxLen; simp; omega) | (unfold maxLen; omega)) (by first | omega | (simp; omega)) (by first | omega | (simp; omega)) ?_; intro v6 w6 hown' hgrow _; have HR6 : Hid (RowN w6 w1.heap.size v6 (M ++ [x])) := (by show w6.ownsRow _ _ _ _ _ _; rw [List.length_append, List.map_append]; simpa [num] using hown'); have HB6 : Hid (Below w1.heap.size w1 w6) := (HB.out.alloc HB.out.size _).grown hgrow (by simp; omega) (fun g hg => (HR5.out.lt g hg).1); have sHB6 := HB6.out.size; obtain ⟨a_HR6, c_HR6, hv_HR6⟩ : ∃ a c, v6 = .slice a (M.length + 1) c := (by obtain ⟨a, c, h⟩ := HR6.out.slice; exact ⟨a, c, by rw [h]; simp⟩); subst hv_HR6; clear hown' hgrow)
        go_ret
        exact ⟨_, rfl, by rw [HW.out]; exact HR6.out.base HB1.out.size, HB1.out.trans (HB6.out.mono HB1.out.size)⟩
theorem psOf_any (v : Value) (l : List Nat) (hl : l.length ≤ 90000) (w : World) (hv : SlN w v l) :
    Calls Try.prog 7 #[v] w fun e w' => ∃ v', e = .returned v' ∧ RowN w' w.heap.size v' (Ps.ofL l) ∧ Below w.heap.size w w' := by
  obtain ⟨a, b, o, c, rfl, ha, hx⟩ := hv
  have HA := Lib.hid ha
  have HX := Lib.hid hx
  clear ha hx
  go_enter Try.func7, Try.ntmps7
  go_wp2
  go_loopg [3, 8] l.length (fun n sv i wr => ∃ (k : Nat) (u : Value), k ≤ l.length ∧ n = l.length - k ∧ i = .int .i64 (k : Nat) ∧ u = sv ∧ Hid (RowN wr w.heap.size u (Ps.ofL (l.take k))) ∧ Hid (Below w.heap.size w wr))
  case atStart => exact ⟨0, _, Nat.zero_le _, rfl, rfl, rfl, World.ownsRow_nil _ _ _ _, Below.refl _ _⟩
  case round =>
    obtain ⟨k, u, hk, rfl, rfl, rfl, HR, HB⟩ := hrel
    by_cases hlt : k < l.length
    · obtain ⟨y, hy⟩ := has_of hlt
      obtain rfl : a = some ⟨b, o, none⟩ := HA.out.resolve_left (by intro h; rw [h] at hlt; cases hlt)
      have e0 := HX.out k y hy
      have d0 := (HB.out.cell (p := ⟨b, o + k, none⟩) (World.block_lt_of_cell? _ _ e0)).trans e0
      have HS := Lib.hid (Ps.ofL_take hy)
      have HLN : Hid ((Ps.ofL (l.take k)).length ≤ 100000) := by
        have h1 := Ps.ofL_len (l.take k)
        rw [List.length_take] at h1
        show _ ≤ _
        omega
      clear e0 hy
      go_wp2_with (go_at_call 10; refine (psWith_any _ _ y HLN.out _ HR.out.sl).mono ?_; rintro e w2 ⟨v2, rfl, hr2, hb2⟩; have HR2 := Lib.hid (hr2.base HB.out.size); have HB2 := Lib.hid (HB.out.trans (hb2.mono HB.out.size)); clear hr2 hb2)
      go_roundg (l.length - (k + 1))
      case measure => omega
      case rel => exact ⟨k + 1, _, hlt, rfl, by go_num, rfl, by show RowN _ _ _ _; rw [HS.out]; exact HR2.out, HB2⟩
    · have hkk : k = l.length := by omega
      have HR5 : Hid (RowN wr w.heap.size u (Ps.ofL l)) := by
        have h := HR.out
        rw [hkk, List.take_length] at h
        exact h
      obtain ⟨a5, c5, rfl⟩ := HR5.out.slice
      go_wp2
      go_ret
      exact ⟨_, rfl, HR5.out, HB.out⟩
/-- Two rows of the same numbers are the same. -/
theorem psSame_any (u v : Value) (l : List Nat) (hl : l.length ≤ 100000) (w : World) (hu : SlN w u l) (hv : SlN w v l) :
    Calls Try.prog 17 #[u, v] w fun e w' => e = .returned (.bool true) ∧ Below w.heap.size w w' := by
  obtain ⟨a, b, o, c, rfl, ha, hx⟩ := hu
  obtain ⟨a', b', o', c', rfl, ha', hx'⟩ := hv
  have HA := Lib.hid ha
  have HX := Lib.hid hx
  have HA' := Lib.hid ha'
  have HX' := Lib.hid hx'
  clear ha hx ha' hx'
  go_enter Try.func17, Try.ntmps17
  go_wp2
  go_loopg [13] l.length (fun n i wr => ∃ k : Nat, k ≤ l.length ∧ n = l.length - k ∧ i = .int .i64 (k : Nat) ∧ Hid (Below w.heap.size w wr))
  case atStart => exact ⟨0, Nat.zero_le _, rfl, rfl, Below.refl _ _⟩
  case round =>
    obtain ⟨k, hk, rfl, rfl, HB⟩ := hrel
    by_cases hlt : k < l.length
    · obtain ⟨y, hy⟩ := has_of hlt
      obtain rfl : a = some ⟨b, o, none⟩ := HA.out.resolve_left (by intro h; rw [h] at hlt; cases hlt)
      obtain rfl : a' = some ⟨b', o', none⟩ := HA'.out.resolve_left (by intro h; rw [h] at hlt; cases hlt)
      have e0 := HX.out k y hy
      have e1 := HX'.out k y hy
      have d0 := (HB.out.cell (p := ⟨b, o + k, none⟩) (World.block_lt_of_cell? _ _ e0)).trans e0
      have d1 := (HB.out.cell (p := ⟨b', o' + k, none⟩) (World.block_lt_of_cell? _ _ e1)).trans e1
      have hk0 : (0 : Int) ≤ (k : Int) := by omega
      have hk1 : (k : Int) < (l.length : Int) := by omega
      clear e0 e1 hy
      go_wp2_with fail
      go_quiet (fail)
      all_goals go_wp2
      go_roundg (l.length - (k + 1))
      case measure => omega
      case rel => exact ⟨k + 1, hlt, rfl, by go_num, by first | exact HB | exact Lib.hid (HB.out.drewN _) | exact Lib.hid ⟨HB.out.os, HB.out.tape, HB.out.output, HB.out.size, HB.out.block⟩⟩
    · have hkk : k = l.length := by omega
      go_wp2
      go_ret
      exact ⟨rfl, HB.out⟩
end Go.Proofs.Ytgckaecjjoghbaa
/- The contract of the pages of the entries that may be taken. -/
namespace Go.Proofs.Ytgckaecjjoghbaa
open Go.RowKit
open Ld (En)
/-- The pages of those entries that are no younger. -/
def mayL (l : List En) (old : Nat) : List Nat := (l.filter fun x => decide (x.tx ≤ old)).map En.page
theorem mayL_snoc {l : List En} {k : Nat} {x : En} (old : Nat) (h : l[k]? = some x) : mayL (l.take (k + 1)) old = if x.tx ≤ old then mayL (l.take k) old ++ [x.page] else mayL (l.take k) old := by
  rw [Ld.take_snoc h]
  unfold mayL
  rw [List.filter_append, List.map_append]
  by_cases hx : x.tx ≤ old <;> simp [hx]
theorem mayL_len (l : List En) (old : Nat) : (mayL l old).length ≤ l.length := by unfold mayL; rw [List.length_map]; exact List.length_filter_le _ _
theorem ldMay_any (v : Value) (l : List En) (old : Nat) (hl : l.length ≤ 50000) (w : World) (hv : SlE w v l) :
    Calls Try.prog 30 #[v, .int .u64 old] w fun e w' => ∃ v', e = .returned v' ∧ RowN w' w.heap.size v' (mayL l old) ∧ Below w.heap.size w w' := by
  obtain ⟨i0, hi, hz0, hz1, hz2⟩ := info_parts infoN
  obtain ⟨a, b, o, c, rfl, ha, hx⟩ := hv
  have HX := Lib.hid hx
  have HA := Lib.hid ha
  clear ha hx
  go_enter Try.func30, Try.ntmps30
  go_wp2
  go_loopg [5, 10] l.length (fun n sv i wr => ∃ (k : Nat) (u : Value), k ≤ l.length ∧ n = l.length - k ∧ i = .int .i64 (k : Nat) ∧ u = sv ∧ Hid (RowN wr w.heap.size u (mayL (l.take k) old)) ∧ Hid (Below w.heap.size w wr))
  case atStart => exact ⟨0, _, Nat.zero_le _, rfl, rfl, rfl, World.ownsRow_nil _ _ _ _, Below.refl _ _⟩
  case round =>
    obtain ⟨k, u, hk, rfl, rfl, rfl, HR, HB⟩ := hrel
    by_cases hlt : k < l.length
    · obtain ⟨y, hy⟩ := some_at hlt
      obtain rfl : a = some ⟨b, o, none⟩ := HA.out.resolve_left (by intro h; rw [h] at hlt; cases hlt)
      obtain ⟨e0, e1⟩ := HX.out k y hy
      have hblt : b < w.heap.size := World.block_lt_of_cell? _ _ e0
      have d0 := (HB.out.cell (p := ⟨b, o + k * 2, none⟩) hblt).trans e0
      have d1 := (HB.out.cell (p := ⟨b, o + k * 2 + 1, none⟩) hblt).trans e1
      have HS := Lib.hid (mayL_snoc old hy)
      have HLN : Hid ((mayL (l.take k) old).length ≤ 50000) := by
        have h1 := mayL_len (l.take k) old
        rw [List.length_take] at h1
        show _ ≤ _
        omega
      generalize mayL (l.take k) old = M at HR HLN HS
      have hln := HLN.out
      obtain ⟨yt, yp⟩ := y
      clear e0 e1 hy hblt
      go_upto_region 5 with fail
      have HR1 : Hid (RowN (wr.alloc (.cells #[.int .u64 yt, .int .u32 yp] 62)) w.heap.size u M) := HR.out.alloc _
      have HB1 : Hid (Below w.heap.size w (wr.alloc (.cells #[.int .u64 yt, .int .u32 yp] 62))) := HB.out.alloc HB.out.size _
      have y0 : (wr.alloc (.cells #[.int .u64 yt, .int .u32 yp] 62)).cell? ⟨wr.heap.size, 0, none⟩ = some (.int .u64 yt) := World.cell?_alloc_new _ _ _ 0
      have y1 : (wr.alloc (.cells #[.int .u64 yt, .int .u32 yp] 62)).cell? ⟨wr.heap.size, 1, none⟩ = some (.int .u32 yp) := World.cell?_alloc_new _ _ _ 1
      generalize (wr.alloc (.cells #[.int .u64 yt, .int .u32 yp] 62)) = W1 at HR1 HB1 y0 y1 ⊢
      generalize wr.heap.size = q at y0 y1 ⊢
      have hbs := HB1.out.size
      clear d0 d1 HR HB
      by_cases hle : yt ≤ old
      · have hle' : (yt : Int) ≤ (old : Int) := by omega
        have HNS := Lib.hid (HS.out.trans (if_pos hle))
        clear hle
        go_wp2_with (at_builtin; refine wpList_append_own _ rfl _ _ 22 rfl w.heap.size 24 i0 _ 1 4 Try.underlying22 hi hz0 hz1 hz2 rfl (by decide) _ M.length _ rfl (HR1.out.alloc _) ⟨W1.heap.size, 0, none⟩ 1 1 [.int .u32 yp] rfl rfl (fun j z hj => by rw [add_at]; exact (World.cell?_alloc_new _ _ _ j).trans (by simpa using hj)) (by first | rfl | (intro z hz; simp at hz; subst hz; rfl)) (by first | omega | (simp; omega) | (unfold maxLen; simp; omega) | (unfold maxLen; omega)) (by first | omega | (simp; omega)) (by first | omega | (simp; omega)) ?_; intro v4 w4 hown' hgrow _; have HR4 : Hid (RowN w4 w.heap.size v4 (M ++ [yp])) := (by show World.ownsRow _ _ _ _ _ _ _; rw [List.length_append, List.map_append]; simpa [num] using hown'); have HB4 : Hid (Below w.heap.size w w4) := (HB1.out.alloc HB1.out.size _).grown hgrow (by simp; omega) (fun g hg => (HR1.out.lt g hg).1); have sHB4 := HB4.out.size; obtain ⟨a_HR4, c_HR4, hv_HR4⟩ : ∃ a c, v4 = .slice a (M.length + 1) c := (by obtain ⟨a, c, h⟩ := HR4.out.slice; exact ⟨a, c, by rw [h]; simp⟩); subst hv_HR4; clear hown' hgrow)
        go_roundg (l.length - (k + 1))
        case measure => omega
        case rel => exact ⟨k + 1, _, hlt, rfl, by go_num, rfl, by show RowN _ _ _ _; rw [HNS.out]; exact HR4.out, HB4⟩
      · have hle' : ¬ (yt : Int) ≤ (old : Int) := by omega
        have HNS := Lib.hid (HS.out.trans (if_neg hle))
        clear hle
        go_wp2
        go_roundg (l.length - (k + 1))
        case measure => omega
        case rel => exact ⟨k + 1, _, hlt, rfl, by go_num, rfl, by show RowN _ _ _ _; rw [HNS.out]; exact HR1.out, HB1⟩
    · have hkk : k = l.length := by omega
      have HR5 : Hid (RowN wr w.heap.size u (mayL l old)) := by
        have h := HR.out
        rw [hkk, List.take_length] at h
        exact h
      obtain ⟨a5, c5, rfl⟩ := HR5.out.slice
      go_wp2
      go_ret
      exact ⟨_, rfl, HR5.out, HB.out⟩
end Go.Proofs.Ytgckaecjjoghbaa
