/- Texts of one seat, merged. -/
import Derived.Test.YtpkoehnjladpoaaD03
import Derived.Deep.AppendLies
import Derived.Maps.AppendAt
import Derived.Deep.RegionHeld3
import Derived.Test.YtpkoehnjladpoaaD02
import Derived.WalkLawsBesides
import Derived.Lib.Strings
import Derived.Lib.Bytealg
set_option maxRecDepth 100000
set_option maxHeartbeats 4000000
set_option linter.unusedVariables false
/- Rows of one's own, and rows that can be cut. -/
namespace Go.Proofs.Ytpkoehnjladpoaa
open Go.RowKit
open Sl (Cl Kd)
/-- A slice whose room is in order. -/
inductive Cap : Value → Prop
  | mk (a : Option Addr) (n c : Nat) (h : n ≤ c) (hm : c ≤ maxLen) (h0 : a = none → c = 0) : Cap (.slice a n c)
theorem ownsRow_below {w w' : World} {B : Nat} {e : TypeId} {s : Nat} {v : Value} {n : Nat} {xs : List Value} (h : w.ownsRow B e s v n xs) (hb : Below w.heap.size w w') : w'.ownsRow B e s v n xs := by
  obtain ⟨h0, h1⟩ := h
  refine ⟨h0, ?_⟩
  rcases h1 with h1 | ⟨g, cap, cur, hv, hB, hg, h2, h3, h4, h5⟩
  · exact .inl h1
  · refine .inr ⟨g, cap, cur, hv, hB, ?_, h2, h3, h4, h5⟩
    have hlt : g < w.heap.size := (Array.getElem?_eq_some_iff.1 hg).1
    rw [hb.block g hlt]; exact hg
theorem ownsRow_cap {w : World} {B : Nat} {e : TypeId} {s : Nat} {v : Value} {n : Nat} {xs : List Value} (h : w.ownsRow B e s v n xs) : Cap v := by
  obtain ⟨_, h1⟩ := h
  rcases h1 with ⟨rfl, _⟩ | ⟨g, cap, cur, rfl, _, _, h2, h3, _⟩
  · exact ⟨none, 0, 0, Nat.le_refl _, Nat.zero_le _, fun _ => rfl⟩
  · exact ⟨_, n, cap, h2, h3, fun h => by cases h⟩
def RowC (w : World) (B : Nat) (v : Value) (l : List Cl) : Prop := w.ownsRow B 42 4 v l.length (l.flatMap cellsC)
def RowK (w : World) (B : Nat) (v : Value) (l : List Kd) : Prop := w.ownsRow B 52 2 v l.length (l.flatMap cellsK)
theorem RowC.below {w w' : World} {B : Nat} {v : Value} {l : List Cl} (h : RowC w B v l) (hb : Below w.heap.size w w') : RowC w' B v l := ownsRow_below h hb
theorem RowK.below {w w' : World} {B : Nat} {v : Value} {l : List Kd} (h : RowK w B v l) (hb : Below w.heap.size w w') : RowK w' B v l := ownsRow_below h hb
theorem RowC.cap {w : World} {B : Nat} {v : Value} {l : List Cl} (h : RowC w B v l) : Cap v := ownsRow_cap h
theorem RowK.cap {w : World} {B : Nat} {v : Value} {l : List Kd} (h : RowK w B v l) : Cap v := ownsRow_cap h
theorem RowC.sl {w : World} {B : Nat} {v : Value} {l : List Cl} (h : RowC w B v l) : SlC w v l := SlC.own h
theorem RowK.sl {w : World} {B : Nat} {v : Value} {l : List Kd} (h : RowK w B v l) : SlK w v l := SlK.own h
theorem ownsRow_base {w : World} {B B' : Nat} {e : TypeId} {s : Nat} {v : Value} {n : Nat} {xs : List Value} (h : w.ownsRow B e s v n xs) (hb : B' ≤ B) : w.ownsRow B' e s v n xs := by
  obtain ⟨h0, h1⟩ := h
  refine ⟨h0, ?_⟩
  rcases h1 with h1 | ⟨g, cap, cur, hv, hB, hg, h2, h3, h4, h5⟩
  · exact .inl h1
  · exact .inr ⟨g, cap, cur, hv, Nat.le_trans hb hB, hg, h2, h3, h4, h5⟩
theorem RowC.base {w : World} {B B' : Nat} {v : Value} {l : List Cl} (h : RowC w B v l) (hb : B' ≤ B) : RowC w B' v l := ownsRow_base h hb
theorem RowK.base {w : World} {B B' : Nat} {v : Value} {l : List Kd} (h : RowK w B v l) (hb : B' ≤ B) : RowK w B' v l := ownsRow_base h hb
theorem RowC.set {w : World} {B : Nat} {v : Value} {l : List Cl} (h : RowC w B v l) {a : Addr} (ha : a.block < B) (u : Value) : RowC (w.setCell a u) B v l := ownsRow_setCell_below h ha u
theorem RowK.set {w : World} {B : Nat} {v : Value} {l : List Kd} (h : RowK w B v l) {a : Addr} (ha : a.block < B) (u : Value) : RowK (w.setCell a u) B v l := ownsRow_setCell_below h ha u
theorem ownsRow_keep {w w' : World} {B B' : Nat} {e : TypeId} {s : Nat} {v : Value} {n : Nat} {xs : List Value} (h : w.ownsRow B e s v n xs) (hlo : ∀ k, v.ownBlock = some k → k < B') (hb : Below B' w w') : w'.ownsRow B e s v n xs := by
  obtain ⟨h0, h1⟩ := h
  refine ⟨h0, ?_⟩
  rcases h1 with h1 | ⟨g, cap, cur, hv, hB, hg, h2, h3, h4, h5⟩
  · exact .inl h1
  · refine .inr ⟨g, cap, cur, hv, hB, ?_, h2, h3, h4, h5⟩
    rw [hb.block g (hlo g (by rw [hv]; rfl))]; exact hg
theorem RowC.keep {w w' : World} {B B' : Nat} {v : Value} {l : List Cl} (h : RowC w B v l) (hlo : ∀ k, v.ownBlock = some k → k < B') (hb : Below B' w w') : RowC w' B v l := ownsRow_keep h hlo hb
theorem RowK.keep {w w' : World} {B B' : Nat} {v : Value} {l : List Kd} (h : RowK w B v l) (hlo : ∀ k, v.ownBlock = some k → k < B') (hb : Below B' w w') : RowK w' B v l := ownsRow_keep h hlo hb
theorem RowC.lo {w : World} {B : Nat} {v : Value} {l : List Cl} (h : RowC w B v l) : ∀ k, v.ownBlock = some k → k < w.heap.size := fun k hk => (World.ownsRow.lt h k hk).2
theorem RowK.lo {w : World} {B : Nat} {v : Value} {l : List Kd} (h : RowK w B v l) : ∀ k, v.ownBlock = some k → k < w.heap.size := fun k hk => (World.ownsRow.lt h k hk).2
theorem last6 {w w1 : World} {B : Nat} {p0 p1 p2 p3 p4 p5 : Addr} {x0 x1 x2 x3 x4 x5 : Value} (H : w1.cell? p0 = some x0 ∧ w1.cell? p1 = some x1 ∧ w1.cell? p2 = some x2 ∧ w1.cell? p3 = some x3 ∧ w1.cell? p4 = some x4 ∧ w1.cell? p5 = some x5 ∧ Below B w w1) : Below B w w1 := H.2.2.2.2.2.2
/-- The answer is a row of the call's own. -/
inductive OwnC (l : List Cl) (w : World) (e : Ending) (w' : World) : Prop
  | mk (v : Value) (he : e = .returned v) (hr : RowC w' w.heap.size v l) (hb : Below w.heap.size w w')
inductive OwnK (l : List Kd) (w : World) (e : Ending) (w' : World) : Prop
  | mk (v : Value) (he : e = .returned v) (hr : RowK w' w.heap.size v l) (hb : Below w.heap.size w w')
theorem add_plain' (b o j : Nat) : (⟨b, o, none⟩ : Addr).add j = ⟨b, o + j, none⟩ := by
  unfold Addr.add; split <;> simp_all
theorem flat_split {α : Type} (f : α → List Value) (s : Nat) (hs : 0 < s) (hf : ∀ x, (f x).length = s) (l : List α) (j : Nat) (u : Value) (h : (l.flatMap f)[j]? = some u) :
    ∃ i r x, l[i]? = some x ∧ r < s ∧ j = i * s + r ∧ (f x)[r]? = some u := by
  have hj : j < l.length * s := by rw [← flat_len f s hf]; exact (List.getElem?_eq_some_iff.1 h).1
  have hi : j / s < l.length := by rw [Nat.div_lt_iff_lt_mul hs]; exact hj
  have hd : j = j / s * s + j % s := by rw [Nat.mul_comm]; exact (Nat.div_add_mod j s).symm
  have hr : j % s < s := Nat.mod_lt _ hs
  refine ⟨j / s, j % s, l[j / s], List.getElem?_eq_getElem hi, hr, hd, ?_⟩
  have := flat_at f s hf l (j / s) (j % s) _ (List.getElem?_eq_getElem hi) hr
  rw [← hd, h] at this
  exact this.symm
theorem SlC.flat {w : World} {b o : Nat} {l : List Cl} (hx : ∀ (j : Nat) x, l[j]? = some x → w.cell? ⟨b, o + j * 4, none⟩ = some (.string (str x.key)) ∧ w.cell? ⟨b, o + j * 4 + 1, none⟩ = some (.string (str x.val)) ∧ w.cell? ⟨b, o + j * 4 + 2, none⟩ = some (.int .u32 x.chain) ∧ w.cell? ⟨b, o + j * 4 + 3, none⟩ = some (.int .u32 x.long)) :
    ∀ j u, (l.flatMap cellsC)[j]? = some u → w.cell? ((⟨b, o, none⟩ : Addr).add j) = some u := by
  intro j u hj
  obtain ⟨i, r, x, hi, hr, rfl, hu⟩ := flat_split cellsC 4 (by decide) cellsC_len l j u hj
  obtain ⟨h0, h1, h2, h3⟩ := hx i x hi
  rw [add_plain', ← Nat.add_assoc]
  match r, hr, hu with
  | 0, _, hu => simp [cellsC] at hu; rw [← hu]; exact h0
  | 1, _, hu => simp [cellsC] at hu; rw [← hu]; exact h1
  | 2, _, hu => simp [cellsC] at hu; rw [← hu]; exact h2
  | 3, _, hu => simp [cellsC] at hu; rw [← hu]; exact h3
theorem SlK.flat {w : World} {b o : Nat} {l : List Kd} (hx : ∀ (j : Nat) x, l[j]? = some x → w.cell? ⟨b, o + j * 2, none⟩ = some (.string (str x.key)) ∧ w.cell? ⟨b, o + j * 2 + 1, none⟩ = some (.int .u32 x.page)) :
    ∀ j u, (l.flatMap cellsK)[j]? = some u → w.cell? ((⟨b, o, none⟩ : Addr).add j) = some u := by
  intro j u hj
  obtain ⟨i, r, x, hi, hr, rfl, hu⟩ := flat_split cellsK 2 (by decide) cellsK_len l j u hj
  obtain ⟨h0, h1⟩ := hx i x hi
  rw [add_plain', ← Nat.add_assoc]
  match r, hr, hu with
  | 0, _, hu => simp [cellsK] at hu; rw [← hu]; exact h0
  | 1, _, hu => simp [cellsK] at hu; rw [← hu]; exact h1
theorem flat_oneC (l : List Cl) : ∀ u ∈ l.flatMap cellsC, u.oneCell' = true := by
  intro u hu
  obtain ⟨x, _, h⟩ := List.mem_flatMap.1 hu
  exact cellsC_one x u h
theorem flat_oneK (l : List Kd) : ∀ u ∈ l.flatMap cellsK, u.oneCell' = true := by
  intro u hu
  obtain ⟨x, _, h⟩ := List.mem_flatMap.1 hu
  exact cellsK_one x u h
end Go.Proofs.Ytpkoehnjladpoaa
/- Nodes as values, the document's and the program's. -/
namespace Go.Proofs.Ytpkoehnjladpoaa.Sl
structure Nd where
  leaf : Bool
  cs : List Cl
  ks : List Kd
structure Rn where
  leaf : Bool
  l : List Cl
/-- The first cell's key. -/
def fkey {α : Type} (S : Sh α) : List α → List UInt8
  | [] => []
  | x :: _ => S.key x
def setK (k : List UInt8) : List Kd → List Kd
  | [] => []
  | x :: t => ⟨k, x.page⟩ :: t
def setC (k : List UInt8) : List Cl → List Cl
  | [] => []
  | x :: t => ⟨k, x.val, x.chain, x.long⟩ :: t
theorem setK_len (k : List UInt8) (l : List Kd) : (setK k l).length = l.length := by cases l <;> rfl
theorem setC_len (k : List UInt8) (l : List Cl) : (setC k l).length = l.length := by cases l <;> rfl
end Go.Proofs.Ytpkoehnjladpoaa.Sl
namespace Go.Proofs.Ytpkoehnjladpoaa
open Go.RowKit
open Sl (Cl Kd Nd Rn)
def ndV (b : Bool) (vc vk : Value) : Value := .agg #[.bool b, vc, vk]
def rnV (b : Bool) (vc : Value) : Value := .agg #[.bool b, vc]
inductive NdV (w : World) (v : Value) (n : Nd) : Prop
  | mk (vc vk : Value) (hv : v = ndV n.leaf vc vk) (hc : SlC w vc n.cs) (hcc : Cap vc) (hk : SlK w vk n.ks) (hkk : Cap vk)
inductive RnV (w : World) (v : Value) (n : Rn) : Prop
  | mk (vc : Value) (hv : v = rnV n.leaf vc) (hc : SlC w vc n.l) (hcc : Cap vc)
theorem NdV.below {w w' : World} {v : Value} {n : Nd} (h : NdV w v n) (hb : Below w.heap.size w w') : NdV w' v n := by
  obtain ⟨vc, vk, hv, hc, hcc, hk, hkk⟩ := h
  exact ⟨vc, vk, hv, hc.below hb, hcc, hk.below hb, hkk⟩
theorem RnV.below {w w' : World} {v : Value} {n : Rn} (h : RnV w v n) (hb : Below w.heap.size w w') : RnV w' v n := by
  obtain ⟨vc, hv, hc, hcc⟩ := h
  exact ⟨vc, hv, hc.below hb, hcc⟩
theorem cap_nil : Cap (.slice none 0 0) := ⟨none, 0, 0, Nat.le_refl _, Nat.zero_le _, fun _ => rfl⟩
theorem leaf_any (v : Value) (hv : Cap v) (w : World) : Calls Try.prog 60 #[v] w fun e w' => e = .returned (ndV true v (.slice none 0 0)) ∧ Below w.heap.size w w' := by
  obtain ⟨a, n, c, _, _, _⟩ := hv
  go_enter Try.func60, Try.ntmps60
  go_wp2
  refine bodyPost_ret_by (v := ndV true (.slice a n c) (.slice none 0 0)) ?_ rfl ⟨rfl, ?_⟩
  · simp [ndV, results, Try.results60, go_sem]
  · exact ((Below.refl _ _).alloc (Nat.le_refl _) _)
theorem branch_any (v : Value) (hv : Cap v) (w : World) : Calls Try.prog 63 #[v] w fun e w' => e = .returned (ndV false (.slice none 0 0) v) ∧ Below w.heap.size w w' := by
  obtain ⟨a, n, c, _, _, _⟩ := hv
  go_enter Try.func63, Try.ntmps63
  go_wp2
  refine bodyPost_ret_by (v := ndV false (.slice none 0 0) (.slice a n c)) ?_ rfl ⟨rfl, ?_⟩
  · simp [ndV, results, Try.results63, go_sem]
  · exact ((Below.refl _ _).alloc (Nat.le_refl _) _)
end Go.Proofs.Ytpkoehnjladpoaa
/- What stays as it was while a call goes on: cells of its own boxes, none of them frozen, and all that was there. -/
namespace Go.Proofs.Ytpkoehnjladpoaa
open Go.RowKit
open Sl (Cl Kd Nd Rn)
structure Kp (B : Nat) (w0 : World) (L : List (Addr × Value)) (w : World) : Prop where
  cell : ∀ p ∈ L, w.cell? p.1 = some p.2
  froz : ∀ p ∈ L, w.frozen? p.1 = false
  below : Below B w0 w
theorem Kp.step {B : Nat} {w0 w w' : World} {L : List (Addr × Value)} (hB : B ≤ w0.heap.size) (h : Kp B w0 L w) (hb : Below w.heap.size w w') : Kp B w0 L w' :=
  ⟨fun p hp => (hb.cell (p := p.1) (World.block_lt_of_cell? _ _ (h.cell p hp))).trans (h.cell p hp), fun p hp => (hb.frozen (p := p.1) (World.block_lt_of_cell? _ _ (h.cell p hp))).trans (h.froz p hp), h.below.trans (hb.mono (Nat.le_trans hB h.below.size))⟩
theorem Kp.drew {B : Nat} {w0 w : World} {L : List (Addr × Value)} (h : Kp B w0 L w) : Kp B w0 L w.drew := ⟨h.cell, h.froz, h.below.drew⟩
theorem stepK3 {B : Nat} {w w1 w2 : World} {L : List (Addr × Value)} {p0 p1 p2 : Addr} {x0 x1 x2 : Value} (hB : B ≤ w.heap.size) (H : w1.cell? p0 = some x0 ∧ w1.cell? p1 = some x1 ∧ w1.cell? p2 = some x2 ∧ Kp B w L w1) (hb : Below w1.heap.size w1 w2) :
    w2.cell? p0 = some x0 ∧ w2.cell? p1 = some x1 ∧ w2.cell? p2 = some x2 ∧ Kp B w L w2 := by
  obtain ⟨h0, h1, h2, hk⟩ := H
  exact ⟨(hb.cell (p := p0) (World.block_lt_of_cell? _ _ h0)).trans h0, (hb.cell (p := p1) (World.block_lt_of_cell? _ _ h1)).trans h1, (hb.cell (p := p2) (World.block_lt_of_cell? _ _ h2)).trans h2, hk.step hB hb⟩
theorem stepK5 {B : Nat} {w w1 w2 : World} {L : List (Addr × Value)} {p0 p1 p2 p3 p4 : Addr} {x0 x1 x2 x3 x4 : Value} (hB : B ≤ w.heap.size) (H : w1.cell? p0 = some x0 ∧ w1.cell? p1 = some x1 ∧ w1.cell? p2 = some x2 ∧ w1.cell? p3 = some x3 ∧ w1.cell? p4 = some x4 ∧ Kp B w L w1) (hb : Below w1.heap.size w1 w2) :
    w2.cell? p0 = some x0 ∧ w2.cell? p1 = some x1 ∧ w2.cell? p2 = some x2 ∧ w2.cell? p3 = some x3 ∧ w2.cell? p4 = some x4 ∧ Kp B w L w2 := by
  obtain ⟨h0, h1, h2, h3, h4, hk⟩ := H
  exact ⟨(hb.cell (p := p0) (World.block_lt_of_cell? _ _ h0)).trans h0, (hb.cell (p := p1) (World.block_lt_of_cell? _ _ h1)).trans h1, (hb.cell (p := p2) (World.block_lt_of_cell? _ _ h2)).trans h2, (hb.cell (p := p3) (World.block_lt_of_cell? _ _ h3)).trans h3, (hb.cell (p := p4) (World.block_lt_of_cell? _ _ h4)).trans h4, hk.step hB hb⟩
theorem stepK2 {B : Nat} {w w1 w2 : World} {L : List (Addr × Value)} {p0 p1 : Addr} {x0 x1 : Value} (hB : B ≤ w.heap.size) (H : w1.cell? p0 = some x0 ∧ w1.cell? p1 = some x1 ∧ Kp B w L w1) (hb : Below w1.heap.size w1 w2) :
    w2.cell? p0 = some x0 ∧ w2.cell? p1 = some x1 ∧ Kp B w L w2 := by
  obtain ⟨h0, h1, hk⟩ := H
  exact ⟨(hb.cell (p := p0) (World.block_lt_of_cell? _ _ h0)).trans h0, (hb.cell (p := p1) (World.block_lt_of_cell? _ _ h1)).trans h1, hk.step hB hb⟩
theorem lastK3 {B : Nat} {w w1 : World} {L : List (Addr × Value)} {p0 p1 p2 : Addr} {x0 x1 x2 : Value} (H : w1.cell? p0 = some x0 ∧ w1.cell? p1 = some x1 ∧ w1.cell? p2 = some x2 ∧ Kp B w L w1) : Below B w w1 := H.2.2.2.below
theorem lastK5 {B : Nat} {w w1 : World} {L : List (Addr × Value)} {p0 p1 p2 p3 p4 : Addr} {x0 x1 x2 x3 x4 : Value} (H : w1.cell? p0 = some x0 ∧ w1.cell? p1 = some x1 ∧ w1.cell? p2 = some x2 ∧ w1.cell? p3 = some x3 ∧ w1.cell? p4 = some x4 ∧ Kp B w L w1) : Below B w w1 := H.2.2.2.2.2.below
theorem box0 (w : World) (A B : Array Value) (S T : TypeId) (i : Nat) : ((w.alloc (.cells A S)).alloc (.cells B T)).cell? ⟨w.heap.size, i, none⟩ = A[i]? :=
  (((Below.refl _ (w.alloc (.cells A S))).alloc (Nat.le_refl _) (.cells B T)).cell (p := ⟨w.heap.size, i, none⟩) (show w.heap.size < _ by simp)).trans (World.cell?_alloc_new w A S i)
theorem box1 (w : World) (A B : Array Value) (S T : TypeId) (i : Nat) : ((w.alloc (.cells A S)).alloc (.cells B T)).cell? ⟨w.heap.size + 1, i, none⟩ = B[i]? := by
  have := World.cell?_alloc_new (w.alloc (.cells A S)) B T i
  rwa [show (w.alloc (.cells A S)).heap.size = w.heap.size + 1 by simp] at this
theorem box1f (w : World) (A B : Array Value) (S T : TypeId) (i : Nat) : ((w.alloc (.cells A S)).alloc (.cells B T)).frozen? ⟨w.heap.size + 1, i, none⟩ = false := by
  have h : ((w.alloc (.cells A S)).alloc (.cells B T)).heap[w.heap.size + 1]? = some (.cells B T (0, 0)) := by
    have := heap_alloc_new (w.alloc (.cells A S)) (.cells B T)
    rwa [show (w.alloc (.cells A S)).heap.size = w.heap.size + 1 by simp] at this
  unfold World.frozen?
  simp only [h]
  simp
theorem boxB (w : World) (A B : Obj) : Below w.heap.size w ((w.alloc A).alloc B) := ((Below.refl _ _).alloc (Nat.le_refl _) _).alloc (by simp) _
/-- The second box, whatever is in it. -/
def row1 (g : Nat) (B : Array Value) : List (Addr × Value) := (List.range B.size).map fun i => (⟨g, i, none⟩, B[i]!)
theorem startK (w : World) (A B : Array Value) (S T : TypeId) : Kp w.heap.size w (row1 (w.heap.size + 1) B) ((w.alloc (.cells A S)).alloc (.cells B T)).drew := by
  refine ⟨fun p hp => ?_, fun p hp => ?_, (boxB w _ _).drew⟩
  · obtain ⟨i, hi, rfl⟩ := List.mem_map.1 hp
    have hi' : i < B.size := List.mem_range.1 hi
    show ((w.alloc (.cells A S)).alloc (.cells B T)).cell? _ = _
    rw [box1, getElem!_pos B i hi', Array.getElem?_eq_getElem hi']
  · obtain ⟨i, hi, rfl⟩ := List.mem_map.1 hp
    exact box1f w A B S T i
def zf : Array Value := #[.int .u8 0, .int .u16 0, .int .u32 0, .int .u64 0, .string ⟨#[]⟩]
def zn : Array Value := #[.bool false, .slice none 0 0, .slice none 0 0]
def zr : Array Value := #[.bool false, .slice none 0 0]
theorem Kp.zf {B : Nat} {w0 w : World} {g : Nat} (h : Kp B w0 (row1 g zf) w) : (w.cell? ⟨g, 0, none⟩ = some (.int .u8 0) ∧ w.cell? ⟨g, 1, none⟩ = some (.int .u16 0) ∧ w.cell? ⟨g, 2, none⟩ = some (.int .u32 0) ∧ w.cell? ⟨g, 3, none⟩ = some (.int .u64 0) ∧ w.cell? ⟨g, 4, none⟩ = some (.string ⟨#[]⟩)) ∧ (w.frozen? ⟨g, 0, none⟩ = false ∧ w.frozen? ⟨g, 1, none⟩ = false ∧ w.frozen? ⟨g, 2, none⟩ = false ∧ w.frozen? ⟨g, 3, none⟩ = false ∧ w.frozen? ⟨g, 4, none⟩ = false) := by
  have hm : ∀ i, i < 5 → ((⟨g, i, none⟩ : Addr), Go.Proofs.Ytpkoehnjladpoaa.zf[i]!) ∈ row1 g Go.Proofs.Ytpkoehnjladpoaa.zf := fun i hi => List.mem_map.2 ⟨i, List.mem_range.2 hi, rfl⟩
  exact ⟨⟨h.cell _ (hm 0 (by decide)), h.cell _ (hm 1 (by decide)), h.cell _ (hm 2 (by decide)), h.cell _ (hm 3 (by decide)), h.cell _ (hm 4 (by decide))⟩, h.froz _ (hm 0 (by decide)), h.froz _ (hm 1 (by decide)), h.froz _ (hm 2 (by decide)), h.froz _ (hm 3 (by decide)), h.froz _ (hm 4 (by decide))⟩
theorem Kp.zn {B : Nat} {w0 w : World} {g : Nat} (h : Kp B w0 (row1 g zn) w) : (w.cell? ⟨g, 0, none⟩ = some (.bool false) ∧ w.cell? ⟨g, 1, none⟩ = some (.slice none 0 0) ∧ w.cell? ⟨g, 2, none⟩ = some (.slice none 0 0)) ∧ (w.frozen? ⟨g, 0, none⟩ = false ∧ w.frozen? ⟨g, 1, none⟩ = false ∧ w.frozen? ⟨g, 2, none⟩ = false) := by
  have hm : ∀ i, i < 3 → ((⟨g, i, none⟩ : Addr), Go.Proofs.Ytpkoehnjladpoaa.zn[i]!) ∈ row1 g Go.Proofs.Ytpkoehnjladpoaa.zn := fun i hi => List.mem_map.2 ⟨i, List.mem_range.2 hi, rfl⟩
  exact ⟨⟨h.cell _ (hm 0 (by decide)), h.cell _ (hm 1 (by decide)), h.cell _ (hm 2 (by decide))⟩, h.froz _ (hm 0 (by decide)), h.froz _ (hm 1 (by decide)), h.froz _ (hm 2 (by decide))⟩
theorem Kp.zr {B : Nat} {w0 w : World} {g : Nat} (h : Kp B w0 (row1 g zr) w) : (w.cell? ⟨g, 0, none⟩ = some (.bool false) ∧ w.cell? ⟨g, 1, none⟩ = some (.slice none 0 0)) ∧ (w.frozen? ⟨g, 0, none⟩ = false ∧ w.frozen? ⟨g, 1, none⟩ = false) := by
  have hm : ∀ i, i < 2 → ((⟨g, i, none⟩ : Addr), Go.Proofs.Ytpkoehnjladpoaa.zr[i]!) ∈ row1 g Go.Proofs.Ytpkoehnjladpoaa.zr := fun i hi => List.mem_map.2 ⟨i, List.mem_range.2 hi, rfl⟩
  exact ⟨⟨h.cell _ (hm 0 (by decide)), h.cell _ (hm 1 (by decide))⟩, h.froz _ (hm 0 (by decide)), h.froz _ (hm 1 (by decide))⟩
theorem below_set2 {B g : Nat} {w w1 : World} {a b : Value} (h : Below B w w1) (hg : B ≤ g) : Below B w ((w1.setCell ⟨g, 0, none⟩ a).setCell ⟨g, 1, none⟩ b) := (h.setCell (p := ⟨g, 0, none⟩) hg _).setCell (p := ⟨g, 1, none⟩) hg _
theorem below_set3 {B g : Nat} {w w1 : World} {a b c : Value} (h : Below B w w1) (hg : B ≤ g) : Below B w (((w1.setCell ⟨g, 0, none⟩ a).setCell ⟨g, 1, none⟩ b).setCell ⟨g, 2, none⟩ c) := (below_set2 h hg).setCell (p := ⟨g, 2, none⟩) hg _
theorem below_set5 {B g : Nat} {w w1 : World} {a b c d e : Value} (h : Below B w w1) (hg : B ≤ g) : Below B w (((((w1.setCell ⟨g, 0, none⟩ a).setCell ⟨g, 1, none⟩ b).setCell ⟨g, 2, none⟩ c).setCell ⟨g, 3, none⟩ d).setCell ⟨g, 4, none⟩ e) := ((below_set3 h hg).setCell (p := ⟨g, 3, none⟩) hg _).setCell (p := ⟨g, 4, none⟩) hg _
theorem Kp.both {B : Nat} {w0 w : World} {L M : List (Addr × Value)} (h : Kp B w0 L w) (k : Kp B w0 M w) : Kp B w0 (L ++ M) w :=
  ⟨fun p hp => (List.mem_append.1 hp).elim (h.cell p) (k.cell p), fun p hp => (List.mem_append.1 hp).elim (h.froz p) (k.froz p), h.below⟩
theorem Kp.left {B : Nat} {w0 w : World} {L M : List (Addr × Value)} (h : Kp B w0 (L ++ M) w) : Kp B w0 L w :=
  ⟨fun p hp => h.cell p (List.mem_append.2 (.inl hp)), fun p hp => h.froz p (List.mem_append.2 (.inl hp)), h.below⟩
theorem Kp.right {B : Nat} {w0 w : World} {L M : List (Addr × Value)} (h : Kp B w0 (L ++ M) w) : Kp B w0 M w :=
  ⟨fun p hp => h.cell p (List.mem_append.2 (.inr hp)), fun p hp => h.froz p (List.mem_append.2 (.inr hp)), h.below⟩
/-- A box that has just been laid. -/
theorem Kp.laid {B : Nat} {w0 w : World} (h : Below B w0 w) (hB : B ≤ w.heap.size) (A : Array Value) (T : TypeId) : Kp B w0 (row1 w.heap.size A) (w.alloc (.cells A T)) := by
  refine ⟨fun p hp => ?_, fun p hp => ?_, h.alloc hB _⟩
  · obtain ⟨i, hi, rfl⟩ := List.mem_map.1 hp
    have hi' : i < A.size := List.mem_range.1 hi
    show (w.alloc (.cells A T)).cell? _ = _
    rw [World.cell?_alloc_new, getElem!_pos A i hi', Array.getElem?_eq_getElem hi']
  · obtain ⟨i, hi, rfl⟩ := List.mem_map.1 hp
    exact World.frozen?_alloc_new w A T i
theorem Kp.two {B : Nat} {w0 w : World} {g : Nat} {x0 x1 : Value} (h : Kp B w0 (row1 g #[x0, x1]) w) : (w.cell? ⟨g, 0, none⟩ = some x0 ∧ w.cell? ⟨g, 1, none⟩ = some x1) ∧ (w.frozen? ⟨g, 0, none⟩ = false ∧ w.frozen? ⟨g, 1, none⟩ = false) := by
  have hm : ∀ i, i < 2 → ((⟨g, i, none⟩ : Addr), (#[x0, x1] : Array Value)[i]!) ∈ row1 g #[x0, x1] := fun i hi => List.mem_map.2 ⟨i, List.mem_range.2 hi, rfl⟩
  exact ⟨⟨h.cell _ (hm 0 (by decide)), h.cell _ (hm 1 (by decide))⟩, h.froz _ (hm 0 (by decide)), h.froz _ (hm 1 (by decide))⟩
theorem Kp.three {B : Nat} {w0 w : World} {g : Nat} {x0 x1 x2 : Value} (h : Kp B w0 (row1 g #[x0, x1, x2]) w) : (w.cell? ⟨g, 0, none⟩ = some x0 ∧ w.cell? ⟨g, 1, none⟩ = some x1 ∧ w.cell? ⟨g, 2, none⟩ = some x2) ∧ (w.frozen? ⟨g, 0, none⟩ = false ∧ w.frozen? ⟨g, 1, none⟩ = false ∧ w.frozen? ⟨g, 2, none⟩ = false) := by
  have hm : ∀ i, i < 3 → ((⟨g, i, none⟩ : Addr), (#[x0, x1, x2] : Array Value)[i]!) ∈ row1 g #[x0, x1, x2] := fun i hi => List.mem_map.2 ⟨i, List.mem_range.2 hi, rfl⟩
  exact ⟨⟨h.cell _ (hm 0 (by decide)), h.cell _ (hm 1 (by decide)), h.cell _ (hm 2 (by decide))⟩, h.froz _ (hm 0 (by decide)), h.froz _ (hm 1 (by decide)), h.froz _ (hm 2 (by decide))⟩
theorem Kp.set {B : Nat} {w0 w : World} {L : List (Addr × Value)} (h : Kp B w0 L w) {p : Addr} (hp : ∀ q ∈ L, q.1 ≠ p) (hB : B ≤ p.block) (x : Value) : Kp B w0 L (w.setCell p x) :=
  ⟨fun q hq => (World.cell?_setCell_other _ _ _ _ (Ne.symm (hp q hq))).trans (h.cell q hq), fun q hq => (World.frozen?_setCell _ _ _ _).trans (h.froz q hq), h.below.setCell hB _⟩
end Go.Proofs.Ytpkoehnjladpoaa
/- Cells that stay as they were, eleven to eighteen of them. -/
namespace Go.Proofs.Ytpkoehnjladpoaa
open Go.RowKit
theorem step11 {w w1 w2 : World} {B : Nat} {p0 p1 p2 p3 p4 p5 p6 p7 p8 p9 p10 : Addr} {x0 x1 x2 x3 x4 x5 x6 x7 x8 x9 x10 : Value} (hB : B ≤ w.heap.size) (H : w1.cell? p0 = some x0 ∧ w1.cell? p1 = some x1 ∧ w1.cell? p2 = some x2 ∧ w1.cell? p3 = some x3 ∧ w1.cell? p4 = some x4 ∧ w1.cell? p5 = some x5 ∧ w1.cell? p6 = some x6 ∧ w1.cell? p7 = some x7 ∧ w1.cell? p8 = some x8 ∧ w1.cell? p9 = some x9 ∧ w1.cell? p10 = some x10 ∧ Below B w w1) (hb : Below w1.heap.size w1 w2) : w2.cell? p0 = some x0 ∧ w2.cell? p1 = some x1 ∧ w2.cell? p2 = some x2 ∧ w2.cell? p3 = some x3 ∧ w2.cell? p4 = some x4 ∧ w2.cell? p5 = some x5 ∧ w2.cell? p6 = some x6 ∧ w2.cell? p7 = some x7 ∧ w2.cell? p8 = some x8 ∧ w2.cell? p9 = some x9 ∧ w2.cell? p10 = some x10 ∧ Below B w w2 := by
  obtain ⟨h0, h1, h2, h3, h4, h5, h6, h7, h8, h9, h10, hq⟩ := H
  exact ⟨(hb.cell (p := p0) (World.block_lt_of_cell? _ _ h0)).trans h0, (hb.cell (p := p1) (World.block_lt_of_cell? _ _ h1)).trans h1, (hb.cell (p := p2) (World.block_lt_of_cell? _ _ h2)).trans h2, (hb.cell (p := p3) (World.block_lt_of_cell? _ _ h3)).trans h3, (hb.cell (p := p4) (World.block_lt_of_cell? _ _ h4)).trans h4, (hb.cell (p := p5) (World.block_lt_of_cell? _ _ h5)).trans h5, (hb.cell (p := p6) (World.block_lt_of_cell? _ _ h6)).trans h6, (hb.cell (p := p7) (World.block_lt_of_cell? _ _ h7)).trans h7, (hb.cell (p := p8) (World.block_lt_of_cell? _ _ h8)).trans h8, (hb.cell (p := p9) (World.block_lt_of_cell? _ _ h9)).trans h9, (hb.cell (p := p10) (World.block_lt_of_cell? _ _ h10)).trans h10, hq.trans (hb.mono (Nat.le_trans hB hq.size))⟩
theorem last11 {w w1 : World} {B : Nat} {p0 p1 p2 p3 p4 p5 p6 p7 p8 p9 p10 : Addr} {x0 x1 x2 x3 x4 x5 x6 x7 x8 x9 x10 : Value} (H : w1.cell? p0 = some x0 ∧ w1.cell? p1 = some x1 ∧ w1.cell? p2 = some x2 ∧ w1.cell? p3 = some x3 ∧ w1.cell? p4 = some x4 ∧ w1.cell? p5 = some x5 ∧ w1.cell? p6 = some x6 ∧ w1.cell? p7 = some x7 ∧ w1.cell? p8 = some x8 ∧ w1.cell? p9 = some x9 ∧ w1.cell? p10 = some x10 ∧ Below B w w1) : Below B w w1 := H.2.2.2.2.2.2.2.2.2.2.2
theorem step13 {w w1 w2 : World} {B : Nat} {p0 p1 p2 p3 p4 p5 p6 p7 p8 p9 p10 p11 p12 : Addr} {x0 x1 x2 x3 x4 x5 x6 x7 x8 x9 x10 x11 x12 : Value} (hB : B ≤ w.heap.size) (H : w1.cell? p0 = some x0 ∧ w1.cell? p1 = some x1 ∧ w1.cell? p2 = some x2 ∧ w1.cell? p3 = some x3 ∧ w1.cell? p4 = some x4 ∧ w1.cell? p5 = some x5 ∧ w1.cell? p6 = some x6 ∧ w1.cell? p7 = some x7 ∧ w1.cell? p8 = some x8 ∧ w1.cell? p9 = some x9 ∧ w1.cell? p10 = some x10 ∧ w1.cell? p11 = some x11 ∧ w1.cell? p12 = some x12 ∧ Below B w w1) (hb : Below w1.heap.size w1 w2) : w2.cell? p0 = some x0 ∧ w2.cell? p1 = some x1 ∧ w2.cell? p2 = some x2 ∧ w2.cell? p3 = some x3 ∧ w2.cell? p4 = some x4 ∧ w2.cell? p5 = some x5 ∧ w2.cell? p6 = some x6 ∧ w2.cell? p7 = some x7 ∧ w2.cell? p8 = some x8 ∧ w2.cell? p9 = some x9 ∧ w2.cell? p10 = some x10 ∧ w2.cell? p11 = some x11 ∧ w2.cell? p12 = some x12 ∧ Below B w w2 := by
  obtain ⟨h0, h1, h2, h3, h4, h5, h6, h7, h8, h9, h10, h11, h12, hq⟩ := H
  exact ⟨(hb.cell (p := p0) (World.block_lt_of_cell? _ _ h0)).trans h0, (hb.cell (p := p1) (World.block_lt_of_cell? _ _ h1)).trans h1, (hb.cell (p := p2) (World.block_lt_of_cell? _ _ h2)).trans h2, (hb.cell (p := p3) (World.block_lt_of_cell? _ _ h3)).trans h3, (hb.cell (p := p4) (World.block_lt_of_cell? _ _ h4)).trans h4, (hb.cell (p := p5) (World.block_lt_of_cell? _ _ h5)).trans h5, (hb.cell (p := p6) (World.block_lt_of_cell? _ _ h6)).trans h6, (hb.cell (p := p7) (World.block_lt_of_cell? _ _ h7)).trans h7, (hb.cell (p := p8) (World.block_lt_of_cell? _ _ h8)).trans h8, (hb.cell (p := p9) (World.block_lt_of_cell? _ _ h9)).trans h9, (hb.cell (p := p10) (World.block_lt_of_cell? _ _ h10)).trans h10, (hb.cell (p := p11) (World.block_lt_of_cell? _ _ h11)).trans h11, (hb.cell (p := p12) (World.block_lt_of_cell? _ _ h12)).trans h12, hq.trans (hb.mono (Nat.le_trans hB hq.size))⟩
theorem last13 {w w1 : World} {B : Nat} {p0 p1 p2 p3 p4 p5 p6 p7 p8 p9 p10 p11 p12 : Addr} {x0 x1 x2 x3 x4 x5 x6 x7 x8 x9 x10 x11 x12 : Value} (H : w1.cell? p0 = some x0 ∧ w1.cell? p1 = some x1 ∧ w1.cell? p2 = some x2 ∧ w1.cell? p3 = some x3 ∧ w1.cell? p4 = some x4 ∧ w1.cell? p5 = some x5 ∧ w1.cell? p6 = some x6 ∧ w1.cell? p7 = some x7 ∧ w1.cell? p8 = some x8 ∧ w1.cell? p9 = some x9 ∧ w1.cell? p10 = some x10 ∧ w1.cell? p11 = some x11 ∧ w1.cell? p12 = some x12 ∧ Below B w w1) : Below B w w1 := H.2.2.2.2.2.2.2.2.2.2.2.2.2
theorem step15 {w w1 w2 : World} {B : Nat} {p0 p1 p2 p3 p4 p5 p6 p7 p8 p9 p10 p11 p12 p13 p14 : Addr} {x0 x1 x2 x3 x4 x5 x6 x7 x8 x9 x10 x11 x12 x13 x14 : Value} (hB : B ≤ w.heap.size) (H : w1.cell? p0 = some x0 ∧ w1.cell? p1 = some x1 ∧ w1.cell? p2 = some x2 ∧ w1.cell? p3 = some x3 ∧ w1.cell? p4 = some x4 ∧ w1.cell? p5 = some x5 ∧ w1.cell? p6 = some x6 ∧ w1.cell? p7 = some x7 ∧ w1.cell? p8 = some x8 ∧ w1.cell? p9 = some x9 ∧ w1.cell? p10 = some x10 ∧ w1.cell? p11 = some x11 ∧ w1.cell? p12 = some x12 ∧ w1.cell? p13 = some x13 ∧ w1.cell? p14 = some x14 ∧ Below B w w1) (hb : Below w1.heap.size w1 w2) : w2.cell? p0 = some x0 ∧ w2.cell? p1 = some x1 ∧ w2.cell? p2 = some x2 ∧ w2.cell? p3 = some x3 ∧ w2.cell? p4 = some x4 ∧ w2.cell? p5 = some x5 ∧ w2.cell? p6 = some x6 ∧ w2.cell? p7 = some x7 ∧ w2.cell? p8 = some x8 ∧ w2.cell? p9 = some x9 ∧ w2.cell? p10 = some x10 ∧ w2.cell? p11 = some x11 ∧ w2.cell? p12 = some x12 ∧ w2.cell? p13 = some x13 ∧ w2.cell? p14 = some x14 ∧ Below B w w2 := by
  obtain ⟨h0, h1, h2, h3, h4, h5, h6, h7, h8, h9, h10, h11, h12, h13, h14, hq⟩ := H
  exact ⟨(hb.cell (p := p0) (World.block_lt_of_cell? _ _ h0)).trans h0, (hb.cell (p := p1) (World.block_lt_of_cell? _ _ h1)).trans h1, (hb.cell (p := p2) (World.block_lt_of_cell? _ _ h2)).trans h2, (hb.cell (p := p3) (World.block_lt_of_cell? _ _ h3)).trans h3, (hb.cell (p := p4) (World.block_lt_of_cell? _ _ h4)).trans h4, (hb.cell (p := p5) (World.block_lt_of_cell? _ _ h5)).trans h5, (hb.cell (p := p6) (World.block_lt_of_cell? _ _ h6)).trans h6, (hb.cell (p := p7) (World.block_lt_of_cell? _ _ h7)).trans h7, (hb.cell (p := p8) (World.block_lt_of_cell? _ _ h8)).trans h8, (hb.cell (p := p9) (World.block_lt_of_cell? _ _ h9)).trans h9, (hb.cell (p := p10) (World.block_lt_of_cell? _ _ h10)).trans h10, (hb.cell (p := p11) (World.block_lt_of_cell? _ _ h11)).trans h11, (hb.cell (p := p12) (World.block_lt_of_cell? _ _ h12)).trans h12, (hb.cell (p := p13) (World.block_lt_of_cell? _ _ h13)).trans h13, (hb.cell (p := p14) (World.block_lt_of_cell? _ _ h14)).trans h14, hq.trans (hb.mono (Nat.le_trans hB hq.size))⟩
theorem last15 {w w1 : World} {B : Nat} {p0 p1 p2 p3 p4 p5 p6 p7 p8 p9 p10 p11 p12 p13 p14 : Addr} {x0 x1 x2 x3 x4 x5 x6 x7 x8 x9 x10 x11 x12 x13 x14 : Value} (H : w1.cell? p0 = some x0 ∧ w1.cell? p1 = some x1 ∧ w1.cell? p2 = some x2 ∧ w1.cell? p3 = some x3 ∧ w1.cell? p4 = some x4 ∧ w1.cell? p5 = some x5 ∧ w1.cell? p6 = some x6 ∧ w1.cell? p7 = some x7 ∧ w1.cell? p8 = some x8 ∧ w1.cell? p9 = some x9 ∧ w1.cell? p10 = some x10 ∧ w1.cell? p11 = some x11 ∧ w1.cell? p12 = some x12 ∧ w1.cell? p13 = some x13 ∧ w1.cell? p14 = some x14 ∧ Below B w w1) : Below B w w1 := H.2.2.2.2.2.2.2.2.2.2.2.2.2.2.2
theorem step18 {w w1 w2 : World} {B : Nat} {p0 p1 p2 p3 p4 p5 p6 p7 p8 p9 p10 p11 p12 p13 p14 p15 p16 p17 : Addr} {x0 x1 x2 x3 x4 x5 x6 x7 x8 x9 x10 x11 x12 x13 x14 x15 x16 x17 : Value} (hB : B ≤ w.heap.size) (H : w1.cell? p0 = some x0 ∧ w1.cell? p1 = some x1 ∧ w1.cell? p2 = some x2 ∧ w1.cell? p3 = some x3 ∧ w1.cell? p4 = some x4 ∧ w1.cell? p5 = some x5 ∧ w1.cell? p6 = some x6 ∧ w1.cell? p7 = some x7 ∧ w1.cell? p8 = some x8 ∧ w1.cell? p9 = some x9 ∧ w1.cell? p10 = some x10 ∧ w1.cell? p11 = some x11 ∧ w1.cell? p12 = some x12 ∧ w1.cell? p13 = some x13 ∧ w1.cell? p14 = some x14 ∧ w1.cell? p15 = some x15 ∧ w1.cell? p16 = some x16 ∧ w1.cell? p17 = some x17 ∧ Below B w w1) (hb : Below w1.heap.size w1 w2) : w2.cell? p0 = some x0 ∧ w2.cell? p1 = some x1 ∧ w2.cell? p2 = some x2 ∧ w2.cell? p3 = some x3 ∧ w2.cell? p4 = some x4 ∧ w2.cell? p5 = some x5 ∧ w2.cell? p6 = some x6 ∧ w2.cell? p7 = some x7 ∧ w2.cell? p8 = some x8 ∧ w2.cell? p9 = some x9 ∧ w2.cell? p10 = some x10 ∧ w2.cell? p11 = some x11 ∧ w2.cell? p12 = some x12 ∧ w2.cell? p13 = some x13 ∧ w2.cell? p14 = some x14 ∧ w2.cell? p15 = some x15 ∧ w2.cell? p16 = some x16 ∧ w2.cell? p17 = some x17 ∧ Below B w w2 := by
  obtain ⟨h0, h1, h2, h3, h4, h5, h6, h7, h8, h9, h10, h11, h12, h13, h14, h15, h16, h17, hq⟩ := H
  exact ⟨(hb.cell (p := p0) (World.block_lt_of_cell? _ _ h0)).trans h0, (hb.cell (p := p1) (World.block_lt_of_cell? _ _ h1)).trans h1, (hb.cell (p := p2) (World.block_lt_of_cell? _ _ h2)).trans h2, (hb.cell (p := p3) (World.block_lt_of_cell? _ _ h3)).trans h3, (hb.cell (p := p4) (World.block_lt_of_cell? _ _ h4)).trans h4, (hb.cell (p := p5) (World.block_lt_of_cell? _ _ h5)).trans h5, (hb.cell (p := p6) (World.block_lt_of_cell? _ _ h6)).trans h6, (hb.cell (p := p7) (World.block_lt_of_cell? _ _ h7)).trans h7, (hb.cell (p := p8) (World.block_lt_of_cell? _ _ h8)).trans h8, (hb.cell (p := p9) (World.block_lt_of_cell? _ _ h9)).trans h9, (hb.cell (p := p10) (World.block_lt_of_cell? _ _ h10)).trans h10, (hb.cell (p := p11) (World.block_lt_of_cell? _ _ h11)).trans h11, (hb.cell (p := p12) (World.block_lt_of_cell? _ _ h12)).trans h12, (hb.cell (p := p13) (World.block_lt_of_cell? _ _ h13)).trans h13, (hb.cell (p := p14) (World.block_lt_of_cell? _ _ h14)).trans h14, (hb.cell (p := p15) (World.block_lt_of_cell? _ _ h15)).trans h15, (hb.cell (p := p16) (World.block_lt_of_cell? _ _ h16)).trans h16, (hb.cell (p := p17) (World.block_lt_of_cell? _ _ h17)).trans h17, hq.trans (hb.mono (Nat.le_trans hB hq.size))⟩
theorem last18 {w w1 : World} {B : Nat} {p0 p1 p2 p3 p4 p5 p6 p7 p8 p9 p10 p11 p12 p13 p14 p15 p16 p17 : Addr} {x0 x1 x2 x3 x4 x5 x6 x7 x8 x9 x10 x11 x12 x13 x14 x15 x16 x17 : Value} (H : w1.cell? p0 = some x0 ∧ w1.cell? p1 = some x1 ∧ w1.cell? p2 = some x2 ∧ w1.cell? p3 = some x3 ∧ w1.cell? p4 = some x4 ∧ w1.cell? p5 = some x5 ∧ w1.cell? p6 = some x6 ∧ w1.cell? p7 = some x7 ∧ w1.cell? p8 = some x8 ∧ w1.cell? p9 = some x9 ∧ w1.cell? p10 = some x10 ∧ w1.cell? p11 = some x11 ∧ w1.cell? p12 = some x12 ∧ w1.cell? p13 = some x13 ∧ w1.cell? p14 = some x14 ∧ w1.cell? p15 = some x15 ∧ w1.cell? p16 = some x16 ∧ w1.cell? p17 = some x17 ∧ Below B w w1) : Below B w w1 := H.2.2.2.2.2.2.2.2.2.2.2.2.2.2.2.2.2.2
end Go.Proofs.Ytpkoehnjladpoaa
/- The contract of mayStand, at a leaf's cells. -/
namespace Go.Proofs.Ytpkoehnjladpoaa
open Go.RowKit
open Sl (Cl Kd)
theorem op_less : ∀ x y : List UInt8, Op.bytesLess x y = Sl.less x y
  | [], [] => rfl
  | [], _ :: _ => rfl
  | _ :: _, [] => rfl
  | a :: x, b :: y => by rw [Op.bytesLess, Sl.less, op_less x y]
theorem bl (a b : List UInt8) : Op.bytesLess (str a).toList (str b).toList = Sl.less a b := by
  rw [Lib.toList_data, Lib.toList_data, op_less]; rfl
theorem elemC {w w1 : World} {x0 x1 x2 x3 : Value} {T : TypeId} (hb : Below (w.alloc (.cells #[x0, x1, x2, x3] T)).heap.size (w.alloc (.cells #[x0, x1, x2, x3] T)) w1) :
    w1.cell? ⟨w.heap.size, 0, none⟩ = some x0 ∧ w1.cell? ⟨w.heap.size, 1, none⟩ = some x1 ∧ w1.cell? ⟨w.heap.size, 2, none⟩ = some x2 ∧ w1.cell? ⟨w.heap.size, 3, none⟩ = some x3 :=
  ⟨(hb.cell (p := ⟨w.heap.size, 0, none⟩) (by simp)).trans (by simp), (hb.cell (p := ⟨w.heap.size, 1, none⟩) (by simp)).trans (by simp), (hb.cell (p := ⟨w.heap.size, 2, none⟩) (by simp)).trans (by simp), (hb.cell (p := ⟨w.heap.size, 3, none⟩) (by simp)).trans (by simp)⟩
end Go.Proofs.Ytpkoehnjladpoaa
/- The contract of the document's own right. -/
namespace Go.Proofs.Ytpkoehnjladpoaa
open Go.RowKit
open Sl (Cl Kd)
theorem long_bad (leaf : Bool) (x : Cl) (h : 255 < x.key.length) : Sl.long (Sl.shR leaf) x = true := by
  unfold Sl.long; rw [decide_eq_true (show 255 < ((Sl.shR leaf).key x).length from h)]; rfl
theorem long_kid (x : Cl) (h : ¬ 255 < x.key.length) : Sl.long (Sl.shR false) x = false := by
  unfold Sl.long; rw [decide_eq_false (show ¬ 255 < ((Sl.shR false).key x).length from h)]; rfl
theorem long_leaf (x : Cl) (h : ¬ 255 < x.key.length) : Sl.long (Sl.shR true) x = !(Sl.fitsC x) := by
  unfold Sl.long; rw [decide_eq_false (show ¬ 255 < ((Sl.shR true).key x).length from h)]; rfl
theorem str_beq {a b : List UInt8} (h : a = b) : ((str a).toList == (str b).toList) = true := by rw [h]; exact beq_self_eq_true _
theorem str_bne {a b : List UInt8} (h : a ≠ b) : ((str a).toList == (str b).toList) = false := by
  rw [Lib.toList_data, Lib.toList_data, beq_eq_false_iff_ne]; exact h
end Go.Proofs.Ytpkoehnjladpoaa
/- Where a key is in a row of cells; nothing of the program. -/
namespace Go.Proofs.Ytpkoehnjladpoaa
namespace Sl
variable {α : Type}
theorem less_trans : ∀ x y z : List UInt8, less x y = true → less y z = true → less x z = true
  | [], _, [], _, h => by rw [less_nil] at h; cases h
  | [], _, _ :: _, _, _ => rfl
  | _ :: _, [], _, h, _ => by cases h
  | _ :: _, _ :: _, [], _, h => by cases h
  | a :: x, b :: y, c :: z, h, k => by
    simp only [less, Bool.or_eq_true, decide_eq_true_eq, Bool.and_eq_true, beq_iff_eq] at h k ⊢
    rcases h with h | ⟨rfl, h⟩
    · rcases k with k | ⟨rfl, k⟩
      · left; rw [UInt8.lt_iff_toNat_lt] at *; omega
      · exact .inl h
    · rcases k with k | ⟨rfl, k⟩
      · exact .inl k
      · exact .inr ⟨rfl, less_trans x y z h k⟩
theorem cmp_pos : ∀ x y : List UInt8, less x y = true → Lib.compareBytes x y = -1
  | [], [], h => by cases h
  | [], _ :: _, _ => rfl
  | _ :: _, [], h => by cases h
  | a :: x, b :: y, h => by
    simp only [less, Bool.or_eq_true, decide_eq_true_eq, Bool.and_eq_true, beq_iff_eq] at h
    rw [Lib.compareBytes]
    rcases h with h | ⟨rfl, h⟩
    · rw [if_pos h]
    · rw [if_neg (u8_irr a), if_neg (u8_irr a)]; exact cmp_pos x y h
theorem cmp_self : ∀ x : List UInt8, Lib.compareBytes x x = 0
  | [] => rfl
  | a :: x => by rw [Lib.compareBytes, if_neg (u8_irr a), if_neg (u8_irr a)]; exact cmp_self x
theorem cmp_neg : ∀ x y : List UInt8, less y x = true → Lib.compareBytes x y = 1
  | [], [], h => by cases h
  | [], _ :: _, h => by cases h
  | _ :: _, [], _ => rfl
  | a :: x, b :: y, h => by
    simp only [less, Bool.or_eq_true, decide_eq_true_eq, Bool.and_eq_true, beq_iff_eq] at h
    rw [Lib.compareBytes]
    rcases h with h | ⟨rfl, h⟩
    · rw [if_neg (fun h2 => by rw [UInt8.lt_iff_toNat_lt] at h h2; omega), if_pos h]
    · rw [if_neg (u8_irr b), if_neg (u8_irr b)]; exact cmp_neg x y h
theorem cmp_lt (x y : List UInt8) (h : less x y = true) : Lib.compareBytes x y < 0 := by rw [cmp_pos x y h]; decide
theorem cmp_ge (x y : List UInt8) (h : less x y = false) : ¬ Lib.compareBytes x y < 0 := by
  cases k : less y x
  · rw [less_tri x y h k, cmp_self]; decide
  · rw [cmp_neg x y k]; decide
theorem cmp_zero (x y : List UInt8) : (Lib.compareBytes x y == 0) = decide (x = y) := by
  by_cases h : x = y
  · subst h; rw [cmp_self]; simp
  · rw [decide_eq_false h]
    cases k : less x y
    · cases m : less y x
      · exact absurd (less_tri x y k m) h
      · rw [cmp_neg x y m]; rfl
    · rw [cmp_pos x y k]; rfl
def place (S : Sh α) (l : List α) (k : List UInt8) : Nat := (l.takeWhile fun x => less (S.key x) k).length
def there (S : Sh α) (l : List α) (k : List UInt8) : Bool := match l[place S l k]? with
  | some x => decide (S.key x = k)
  | none => false
theorem place_eq (S : Sh α) (k : List UInt8) : ∀ (l : List α) (i : Nat), i ≤ l.length → (∀ m x, m < i → l[m]? = some x → less (S.key x) k = true) → (∀ x, l[i]? = some x → less (S.key x) k = false) → place S l k = i
  | [], i, hi, _, _ => by
    have : i = 0 := by simpa using hi
    subst this; rfl
  | x :: l, 0, _, _, h2 => by
    have := h2 x rfl
    unfold place
    rw [List.takeWhile_cons, this]; rfl
  | x :: l, i + 1, hi, h1, h2 => by
    have hx := h1 0 x (Nat.succ_pos _) rfl
    have ih := place_eq S k l i (by simpa using hi) (fun m y hm hy => h1 (m + 1) y (by omega) (by simpa using hy)) (fun y hy => h2 y (by simpa using hy))
    unfold place at ih ⊢
    rw [List.takeWhile_cons, hx, if_pos rfl, List.length_cons, ih]
theorem place_le (S : Sh α) (l : List α) (k : List UInt8) : place S l k ≤ l.length := (List.takeWhile_prefix _).length_le
theorem there_some (S : Sh α) (l : List α) (k : List UInt8) (x : α) (h : l[place S l k]? = some x) : there S l k = decide (S.key x = k) := by
  unfold there; rw [h]
theorem there_none (S : Sh α) (l : List α) (k : List UInt8) (h : l.length ≤ place S l k) : there S l k = false := by
  unfold there; rw [List.getElem?_eq_none h]
theorem rises_pair (S : Sh α) (l : List α) (h : rises S l = true) : ∀ (d m : Nat) (a b : α), l[m]? = some a → l[m + d + 1]? = some b → less (S.key a) (S.key b) = true
  | 0, m, a, b, ha, hb => (rises_iff S l).1 h m a b ha hb
  | d + 1, m, a, b, ha, hb => by
    have hlt := (List.getElem?_eq_some_iff.1 hb).1
    have hc : l[m + d + 1]? = some (l[m + d + 1]'(by omega)) := List.getElem?_eq_getElem _
    exact less_trans _ _ _ (rises_pair S l h d m a _ ha hc) ((rises_iff S l).1 h (m + d + 1) _ b hc hb)
theorem rises_lt (S : Sh α) (l : List α) (h : rises S l = true) (m n : Nat) (a b : α) (hmn : m < n) (ha : l[m]? = some a) (hb : l[n]? = some b) : less (S.key a) (S.key b) = true :=
  rises_pair S l h (n - m - 1) m a b ha (by rw [show m + (n - m - 1) + 1 = n by omega]; exact hb)
theorem low_of (S : Sh α) (l : List α) (k : List UInt8) (h : rises S l = true) (i : Nat) (x : α) (hx : l[i]? = some x) (hk : less (S.key x) k = true) : ∀ m y, m < i + 1 → l[m]? = some y → less (S.key y) k = true := by
  intro m y hm hy
  by_cases hmi : m = i
  · subst hmi; rw [hx] at hy; cases hy; exact hk
  · exact less_trans _ _ _ (rises_lt S l h m i y x (by omega) hy hx) hk
theorem high_of (S : Sh α) (l : List α) (k : List UInt8) (h : rises S l = true) (i : Nat) (x : α) (hx : l[i]? = some x) (hk : less (S.key x) k = false) : ∀ m y, i ≤ m → l[m]? = some y → less (S.key y) k = false := by
  intro m y hm hy
  by_cases hmi : m = i
  · subst hmi; rw [hx] at hy; cases hy; exact hk
  · cases hyk : less (S.key y) k
    · rfl
    · rw [less_trans _ _ _ (rises_lt S l h i m x y (by omega) hx hy) hyk] at hk; cases hk
end Sl
end Go.Proofs.Ytpkoehnjladpoaa
/- What stands ahead of a key's place, at it and behind it; nothing of the program. -/
namespace Go.Proofs.Ytpkoehnjladpoaa
namespace Sl
variable {α : Type}
theorem place_low (S : Sh α) (k : List UInt8) : ∀ (l : List α) (m : Nat) (x : α), m < place S l k → l[m]? = some x → less (S.key x) k = true
  | [], m, x, h, _ => by unfold place at h; simp at h
  | y :: l, m, x, h, hx => by
    unfold place at h
    rw [List.takeWhile_cons] at h
    cases hy : less (S.key y) k
    · rw [hy] at h; simp at h
    · rw [hy, if_pos rfl, List.length_cons] at h
      cases m with
      | zero => simp at hx; subst hx; exact hy
      | succ m => exact place_low S k l m x (by unfold place; omega) (by simpa using hx)
theorem place_at (S : Sh α) (k : List UInt8) : ∀ (l : List α) (x : α), l[place S l k]? = some x → less (S.key x) k = false
  | [], x, h => by simp at h
  | y :: l, x, h => by
    unfold place at h
    rw [List.takeWhile_cons] at h
    cases hy : less (S.key y) k
    · rw [hy] at h; simp at h; subst h; exact hy
    · rw [hy, if_pos rfl, List.length_cons, List.getElem?_cons_succ] at h
      exact place_at S k l x h
theorem low_ne (x k : List UInt8) (h : less x k = true) : x ≠ k := fun e => by rw [e, less_self] at h; cases h
theorem place_high (S : Sh α) (l : List α) (k : List UInt8) (h : rises S l = true) (m : Nat) (x : α) (hm : place S l k < m) (hx : l[m]? = some x) : less (S.key x) k = false ∧ S.key x ≠ k := by
  have hlt := (List.getElem?_eq_some_iff.1 hx).1
  have hp : l[place S l k]? = some (l[place S l k]'(by omega)) := List.getElem?_eq_getElem _
  have h1 := place_at S k l _ hp
  refine ⟨high_of S l k h _ _ hp h1 m x (by omega) hx, fun e => ?_⟩
  have h2 := rises_lt S l h _ m _ x hm hp hx
  rw [e] at h2
  rw [h2] at h1; cases h1
end Sl
end Go.Proofs.Ytpkoehnjladpoaa
