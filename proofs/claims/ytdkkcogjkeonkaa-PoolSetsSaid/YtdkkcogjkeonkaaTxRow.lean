/- Rows of one-cell things of one's own; what the library's writing in place leaves of them. -/
import Derived.Test.YtdkkcogjkeonkaaTxMath
import Derived.Sort.EncStr
import Derived.Sort.OwnSorted
import Derived.Deep.LoopGhost
import Derived.OwnWalk
import Derived.Lib.Hide
import Derived.Below
set_option maxRecDepth 100000
set_option maxHeartbeats 4000000
set_option linter.unusedVariables false
namespace Go.Proofs.Ytdkkcogjkeonkaa
open Go.RowKit Go.Sort
/-- A slice that holds a row. -/
def SlP {α : Type} (enc : α → Value) (w : World) (v : Value) (l : List α) : Prop :=
  ∃ (a : Option Addr) (b o c : Nat), v = .slice a l.length c ∧ (l = [] ∨ a = some ⟨b, o, none⟩) ∧ ∀ (j : Nat) x, l[j]? = some x → w.cell? ⟨b, o + j, none⟩ = some (enc x)
theorem SlP.below {α : Type} {enc : α → Value} {B : Nat} {w w' : World} {v : Value} {l : List α} (h : SlP enc w v l) (hs : B = w.heap.size) (hb : Below B w w') : SlP enc w' v l := by
  subst hs
  obtain ⟨a, b, o, c, hv, ha, hx⟩ := h
  refine ⟨a, b, o, c, hv, ha, fun j x hj => ?_⟩
  have h0 := hx j x hj
  exact (hb.cell (p := ⟨b, o + j, none⟩) (World.block_lt_of_cell? _ _ h0)).trans h0
theorem SlP.slice {α : Type} {enc : α → Value} {w : World} {v : Value} {l : List α} (h : SlP enc w v l) : ∃ a c, v = .slice a l.length c := by
  obtain ⟨a, _, _, c, rfl, _⟩ := h
  exact ⟨a, c, rfl⟩
/-- A row of one's own. -/
def RowP {α : Type} (enc : α → Value) (t : TypeId) (w : World) (B : Nat) (v : Value) (l : List α) : Prop := w.ownsRow B t 1 v l.length (l.map enc)
variable {α : Type} {enc : α → Value} {t : TypeId} {w w' : World} {B B' : Nat} {v : Value} {l : List α}
theorem RowP.nil (enc : α → Value) (t : TypeId) (w : World) (B : Nat) : RowP enc t w B (.slice none 0 0) [] := World.ownsRow_nil _ _ _ _
theorem RowP.open (h : RowP enc t w B v l) : (v = .slice none 0 0 ∧ l = []) ∨ ∃ (g cap : Nat) (cur : Array Value), v = .slice (some ⟨g, 0, none⟩) l.length cap ∧ B ≤ g ∧ w.heap[g]? = some (.cells cur t (0, 0)) ∧ l.length ≤ cap ∧ cap ≤ maxLen ∧ cur.size = cap ∧ cur.toList.take l.length = l.map enc := by
  have h' : w.ownsRow B t 1 v l.length (l.map enc) := h
  rcases h'.2 with ⟨rfl, h0⟩ | ⟨g, cap, cur, rfl, hB, hg, h2, h3, h4, h5⟩
  · exact .inl ⟨rfl, List.length_eq_zero_iff.1 h0⟩
  · exact .inr ⟨g, cap, cur, rfl, hB, hg, h2, h3, by simpa using h4, by simpa using h5⟩
theorem RowP.mk {g cap : Nat} {cur : Array Value} (hB : B ≤ g) (hg : w.heap[g]? = some (.cells cur t (0, 0))) (h1 : l.length ≤ cap) (h2 : cap ≤ maxLen) (h3 : cur.size = cap) (h4 : cur.toList.take l.length = l.map enc) : RowP enc t w B (.slice (some ⟨g, 0, none⟩) l.length cap) l :=
  ⟨by simp, .inr ⟨g, cap, cur, rfl, hB, hg, h1, h2, by simpa using h3, by simpa using h4⟩⟩
theorem RowP.slice (h : RowP enc t w B v l) : ∃ a c, v = .slice a l.length c := by
  rcases h.open with ⟨rfl, rfl⟩ | ⟨g, cap, cur, rfl, _⟩
  · exact ⟨none, 0, rfl⟩
  · exact ⟨_, _, rfl⟩
theorem RowP.cells (h : RowP enc t w B v l) {g o n c : Nat} (hv : v = .slice (some ⟨g, o, none⟩) n c) : o = 0 ∧ ∀ j x, l[j]? = some x → w.cell? ⟨g, j, none⟩ = some (enc x) ∧ w.frozen? ⟨g, j, none⟩ = false := by
  rcases h.open with ⟨rfl, rfl⟩ | ⟨g', cap, cur, rfl, _, hg, h1, _, h3, h4⟩
  · cases hv
  · cases hv
    refine ⟨rfl, fun j x hj => ⟨?_, by simp [World.frozen?, hg]⟩⟩
    have hlt := (List.getElem?_eq_some_iff.1 hj).1
    have : (cur.toList.take l.length)[j]? = some (enc x) := by rw [h4, List.getElem?_map, hj]; rfl
    rw [List.getElem?_take_of_lt hlt] at this
    simp [World.cell?, hg]
    simpa using this
theorem RowP.sl (h : RowP enc t w B v l) : SlP enc w v l := by
  rcases h.open with ⟨rfl, rfl⟩ | ⟨g, cap, cur, rfl, _⟩
  · exact ⟨none, 0, 0, 0, rfl, .inl rfl, fun j p hj => by simp at hj⟩
  · exact ⟨_, g, 0, cap, rfl, .inr rfl, fun j x hj => by rw [Nat.zero_add]; exact ((h.cells rfl).2 j x hj).1⟩
theorem RowP.below (h : RowP enc t w B v l) (hb : Below w.heap.size w w') : RowP enc t w' B v l := by
  rcases h.open with ⟨rfl, rfl⟩ | ⟨g, cap, cur, rfl, hB, hg, h1, h2, h3, h4⟩
  · exact RowP.nil _ _ _ _
  · exact .mk hB ((hb.block g (Array.getElem?_eq_some_iff.1 hg).1).trans hg) h1 h2 h3 h4
theorem RowP.base (h : RowP enc t w B v l) (hb : B' ≤ B) : RowP enc t w B' v l := by
  rcases h.open with ⟨rfl, rfl⟩ | ⟨g, cap, cur, rfl, hB, hg, h1, h2, h3, h4⟩
  · exact RowP.nil _ _ _ _
  · exact .mk (Nat.le_trans hb hB) hg h1 h2 h3 h4
/-- It stays where its block stays. -/
theorem RowP.keep (h : RowP enc t w B v l) (hk : ∀ g, v.ownBlock = some g → w'.heap[g]? = w.heap[g]?) : RowP enc t w' B v l := by
  rcases h.open with ⟨rfl, rfl⟩ | ⟨g, cap, cur, rfl, hB, hg, h1, h2, h3, h4⟩
  · exact RowP.nil _ _ _ _
  · exact .mk hB ((hk g rfl).trans hg) h1 h2 h3 h4
theorem RowP.lt (h : RowP enc t w B v l) {g : Nat} (hg : v.ownBlock = some g) : g < w.heap.size ∧ B ≤ g := by
  rcases h.open with ⟨rfl, rfl⟩ | ⟨g', cap, cur, rfl, hB, hg', _⟩
  · cases hg
  · cases hg; exact ⟨(Array.getElem?_eq_some_iff.1 hg').1, hB⟩
theorem getB [Inhabited α] {l : List α} {j : Nat} {x : α} (h : l[j]? = some x) : l.toArray[j]! = x := by
  have hl := (List.getElem?_eq_some_iff.1 h).1
  rw [getElem!_pos _ j (by simpa using hl)]
  simpa using (List.getElem?_eq_some_iff.1 h).2
theorem RowP.holds [Inhabited α] (h : RowP enc t w B v l) {g n c : Nat} (hv : v = .slice (some ⟨g, 0, none⟩) n c) : Holds enc w g 0 l.toArray := by
  intro j hj
  have hx : l[j]? = some l[j] := List.getElem?_eq_getElem (by simpa using hj)
  rw [getB hx, Nat.zero_add]
  exact (h.cells hv).2 j _ hx
theorem heap_putP [Inhabited α] {g n : Nat} {os : Array Obj} {cur : Array Value} {e : TypeId} {fr : Nat × Nat} (F : Array α) (hb : w.heap[g]? = some (.cells cur e fr)) :
    (grow (putRow enc (Sort.ahead w n) g 0 F) os).heap[g]? = some (.cells (putCells enc 0 F cur) e fr) := by
  have hg : g < w.heap.size := (Array.getElem?_eq_some_iff.1 hb).1
  rw [heap_grow_old _ _ (by simpa using hg)]
  simp [putRow, mapBlock, Sort.ahead, Array.getElem?_modify, hb, onCells]
theorem below_putP [Inhabited α] {g n : Nat} {os : Array Obj} (F : Array α) (hB : B ≤ g) (hg : g < w.heap.size) : Below B w (grow (putRow enc (Sort.ahead w n) g 0 F) os) := by
  refine ⟨rfl, rfl, rfl, by simp [grow, putRow, mapBlock, Sort.ahead], fun k hk => ?_⟩
  rw [heap_grow_old _ _ (by simp [putRow, mapBlock, Sort.ahead]; omega)]
  have : g ≠ k := by omega
  simp [putRow, mapBlock, Sort.ahead, Array.getElem?_modify, this]
theorem take_putP [Inhabited α] (cur : Array Value) (F : List α) (m : Nat) (h : F.length ≤ cur.size) (hm : m ≤ F.length) : (putCells enc 0 F.toArray cur).toList.take m = (F.take m).map enc := by
  apply List.ext_getElem?
  intro j
  by_cases hj : j < m
  · have hjF : j < F.length := by omega
    rw [List.getElem?_take_of_lt hj, Array.getElem?_toList, List.getElem?_map, List.getElem?_take_of_lt hj, List.getElem?_eq_getElem hjF]
    have : F.toArray[j]! = F[j] := getB (List.getElem?_eq_getElem hjF)
    simp [putCells, hjF, show j < cur.size by omega]
  · rw [List.getElem?_take_eq_none (by omega), List.getElem?_eq_none (by simp; omega)]
theorem size_putP [Inhabited α] (cur : Array Value) (F : Array α) (o : Nat) : (putCells enc o F cur).size = cur.size := by simp [putCells]
theorem grow_none (w : World) : grow w #[] = w := by simp [grow]
/-- WHAT IS WRITTEN OVER A ROW OF ONE'S OWN: what it holds then, cut to a length. -/
theorem RowP.put [Inhabited α] {g cap n : Nat} {os : Array Obj} (h : RowP enc t w B (.slice (some ⟨g, 0, none⟩) l.length cap) l) (F : List α) (m : Nat) (hF : F.length = l.length) (hm : m ≤ F.length) :
    RowP enc t (grow (putRow enc (Sort.ahead w n) g 0 F.toArray) os) B (.slice (some ⟨g, 0, none⟩) m cap) (F.take m) ∧ Below B w (grow (putRow enc (Sort.ahead w n) g 0 F.toArray) os) := by
  rcases h.open with ⟨hv, _⟩ | ⟨g', cap', cur, hv, hB, hg, h1, h2, h3, h4⟩
  · cases hv
  · cases hv
    have hl : (F.take m).length = m := by rw [List.length_take]; omega
    refine ⟨?_, below_putP _ hB (Array.getElem?_eq_some_iff.1 hg).1⟩
    have := RowP.mk (enc := enc) (t := t) (l := F.take m) (w := grow (putRow enc (Sort.ahead w n) g 0 F.toArray) os) (B := B) (cap := cap) hB (heap_putP F.toArray hg) (by rw [hl]; omega) h2 (by rw [size_putP]; exact h3) (by rw [hl]; exact take_putP cur F m (by omega) hm)
    rw [hl] at this
    exact this
/-- Nothing but a set's box and its row is another. -/
structure SetK (p B : Nat) (v : Value) (w w' : World) : Prop where
  size : w.heap.size ≤ w'.heap.size
  os : w'.os = w.os
  tape : w'.tape = w.tape
  output : w'.output = w.output
  keep : ∀ k, k ≠ p → v.ownBlock ≠ some k → k < w.heap.size → w'.heap[k]? = w.heap[k]?
theorem cell_same {w w' : World} {p : Nat} (h : w'.heap[p]? = w.heap[p]?) (o : Nat) : w'.cell? ⟨p, o, none⟩ = w.cell? ⟨p, o, none⟩ := by simp [World.cell?, h]
theorem frozen_same {w w' : World} {p : Nat} (h : w'.heap[p]? = w.heap[p]?) (o : Nat) : w'.frozen? ⟨p, o, none⟩ = w.frozen? ⟨p, o, none⟩ := by simp [World.frozen?, h]
theorem SetK.stored {w w2 : World} {p B : Nat} {v : Value} (hs : w.heap.size ≤ w2.heap.size) (ho : w2.os = w.os) (ht : w2.tape = w.tape) (hou : w2.output = w.output) (hk : ∀ k, v.ownBlock ≠ some k → k < w.heap.size → w2.heap[k]? = w.heap[k]?) (u : Value) :
    SetK p B v w (w2.setCell ⟨p, 0, none⟩ u) := by
  refine ⟨?_, ?_, ?_, ?_, fun k hp hv hlt => (Below.heap_setCell w2 _ u k hp).trans (hk k hv hlt)⟩
  · simpa [World.setCell] using hs
  · simpa [World.setCell] using ho
  · simpa [World.setCell] using ht
  · simpa [World.setCell] using hou
theorem ins_len {α : Type} {l : List α} {p : Nat} {x : α} (h : p ≤ l.length) : (Tx.ins l p x).length = l.length + 1 := by
  unfold Tx.ins; simp; omega
theorem del_len {α : Type} {l : List α} {p : Nat} (h : p < l.length) : (Tx.del l p).length = l.length - 1 := by
  unfold Tx.del; simp; omega
end Go.Proofs.Ytdkkcogjkeonkaa
