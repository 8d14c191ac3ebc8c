/- What the library's sort keeps while it works: a row's block, own, and what it holds now. -/
import Derived.Test.YtdkkcogjkeonkaaUxSrt
import Derived.Sort.LotD1
import Derived.Sort.LotD3
import Derived.Sort.LotC
import Derived.Sort.LotB
set_option maxRecDepth 100000
set_option maxHeartbeats 4000000
set_option linter.unusedVariables false
namespace Go.Proofs.Ytdkkcogjkeonkaa
open Go.RowKit
open Go.Sort (swp PermIn SortedIn)
/-- A row's block holds these numbers; nothing below B is another than at w. -/
structure PR (sz cap B g : Nat) (w : World) (d : Array Nat) (W : World) : Prop where
  size : d.size = sz
  hB : B ≤ g
  bel : Below B w W
  blk : ∃ cur, W.heap[g]? = some (.cells cur 24 (0, 0)) ∧ cur.size = cap ∧ ∀ j, j < sz → cur[j]? = some (eV d[j]!)
variable {sz cap B g : Nat} {w W W' : World} {d : Array Nat}
theorem PR.lt (h : PR sz cap B g w d W) : g < W.heap.size := by
  obtain ⟨cur, h1, _⟩ := h.blk
  exact (Array.getElem?_eq_some_iff.1 h1).1
theorem PR.cell (h : PR sz cap B g w d W) (t : Nat) (ht : t < sz) : W.cell? ⟨g, t, none⟩ = some (.int .u32 (d[t]! : Nat)) ∧ W.frozen? ⟨g, t, none⟩ = false := by
  obtain ⟨cur, h1, h2, h3⟩ := h.blk
  have := h3 t ht
  refine ⟨by simp [World.cell?, h1, this], by simp [World.frozen?, h1]⟩
/-- A world in which the row's block is the same. -/
theorem PR.keep (h : PR sz cap B g w d W) (hb : Below B w W') (hk : W'.heap[g]? = W.heap[g]?) : PR sz cap B g w d W' := by
  obtain ⟨cur, h1, h2, h3⟩ := h.blk
  exact ⟨h.size, h.hB, hb, cur, hk.trans h1, h2, h3⟩
theorem PR.belowG (h : PR sz cap B g w d W) {G : Nat} (hG : g < G) (hb : Below G W W') : PR sz cap B g w d W' :=
  h.keep (h.bel.trans (hb.mono (Nat.le_trans h.hB (Nat.le_of_lt hG)))) (hb.block g hG)
theorem PR.below (h : PR sz cap B g w d W) (hb : Below W.heap.size W W') : PR sz cap B g w d W' := h.belowG h.lt hb
theorem PR.drewN (h : PR sz cap B g w d W) (q : Nat) : PR sz cap B g w d (W.drewN q) := h.below (below_drewV (Below.refl _ W) q)
theorem PR.alloc (h : PR sz cap B g w d W) (o : Obj) : PR sz cap B g w d (W.alloc o) := h.below ((Below.refl _ W).alloc (Nat.le_refl _) _)
theorem get_swp (d : Array Nat) (j k t : Nat) (hj : j < d.size) (hk : k < d.size) (ht : t < d.size) : (swp d j k)[t]! = if t = k then d[j]! else if t = j then d[k]! else d[t]! := by
  by_cases h1 : t = k
  · subst h1; rw [if_pos rfl]; exact Go.Sort.swp_right d j t hk
  · rw [if_neg h1]
    by_cases h2 : t = j
    · subst h2; rw [if_pos rfl]; exact Go.Sort.swp_left d t k hj h1
    · rw [if_neg h2]; exact Go.Sort.swp_other d j k t h2 h1
theorem heap_set {W : World} {g t : Nat} {v : Value} {cur : Array Value} {T : TypeId} (h : W.heap[g]? = some (.cells cur T (0, 0))) : (W.setCell ⟨g, t, none⟩ v).heap[g]? = some (.cells (cur.setIfInBounds t v) T (0, 0)) := by
  simp [World.setCell, Array.getElem?_modify, h]
theorem PR.swap0 (h : PR sz cap B g w d W) (j k : Nat) (hj : j < sz) (hk : k < sz) (hsz : sz ≤ cap) :
    PR sz cap B g w (swp d j k) ((W.setCell ⟨g, j, none⟩ (eV d[k]!)).setCell ⟨g, k, none⟩ (eV d[j]!)) := by
  obtain ⟨cur, h1, h2, h3⟩ := h.blk
  refine ⟨by rw [Go.Sort.size_swp, h.size], h.hB, (h.bel.setCell (p := ⟨g, j, none⟩) h.hB _).setCell (p := ⟨g, k, none⟩) h.hB _, _, heap_set (heap_set h1), by simp [h2], fun t ht => ?_⟩
  rw [get_swp d j k t (by rw [h.size]; exact hj) (by rw [h.size]; exact hk) (by rw [h.size]; exact ht)]
  rw [Array.getElem?_setIfInBounds, Array.getElem?_setIfInBounds]
  by_cases e1 : k = t
  · subst e1; rw [if_pos rfl, if_pos rfl, if_pos (by simp; omega)]
  · rw [if_neg e1, if_neg (Ne.symm e1)]
    by_cases e2 : j = t
    · subst e2; rw [if_pos rfl, if_pos rfl, if_pos (by omega)]
    · rw [if_neg e2, if_neg (Ne.symm e2)]; exact h3 t ht
theorem PR.swap (h : PR sz cap B g w d W) (q j k : Nat) (hj : j < sz) (hk : k < sz) (hsz : sz ≤ cap) :
    PR sz cap B g w (swp d j k) (((W.drewN q).setCell ⟨g, j, none⟩ (eV d[k]!)).setCell ⟨g, k, none⟩ (eV d[j]!)) := (h.drewN q).swap0 j k hj hk hsz
theorem permSwp (d : Array Nat) {a b i j : Nat} (h1 : a ≤ i) (h2 : i < b) (h3 : a ≤ j) (h4 : j < b) (h5 : b ≤ d.size) : PermIn a b d (swp d i j) := Go.Sort.swp_permIn d a b i j h1 h2 h3 h4 h5
theorem permRefl (d : Array Nat) (a b : Nat) : PermIn a b d d := Go.Sort.permIn_refl d a b
theorem permTrans {d d' d'' : Array Nat} {a b : Nat} (h : PermIn a b d d') (h' : PermIn a b d' d'') : PermIn a b d d'' := Go.Sort.permIn_trans d d' d'' a b h h'
end Go.Proofs.Ytdkkcogjkeonkaa
