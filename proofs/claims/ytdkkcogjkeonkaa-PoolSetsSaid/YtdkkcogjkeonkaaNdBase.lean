/- Rows of one's own, and rows that can be cut. -/
import Derived.Test.YtdkkcogjkeonkaaRows2
import Derived.Test.YtdkkcogjkeonkaaNMath
import Derived.Test.YtdkkcogjkeonkaaSteps2
import Derived.Deep.AppendLies
import Derived.Maps.AppendAt
set_option maxRecDepth 100000
set_option maxHeartbeats 4000000
set_option linter.unusedVariables false
namespace Go.Proofs.Ytdkkcogjkeonkaa
open Go.RowKit
open Sl (Cl Kd)
/-- A slice whose room is in order. -/
inductive Cap : Value → Prop
  | mk (a : Option Addr) (n c : Nat) (h : n ≤ c) (hm : c ≤ maxLen) (h0 : a = none → c = 0) : Cap (.slice a n c)
theorem ownsRow_below {w w' : World} {B : Nat} {e : TypeId} {s : Nat} {v : Value} {n : Nat} {xs : List Value} (h : w.ownsRow B e s v n xs) (hb : Below w.heap.size w w') : w'.ownsRow B e s v n xs := by
  obtain ⟨h0, h1⟩ := h
  refine ⟨h0, ?_⟩
  rcases h1 with h1 | ⟨g, cap, cur, hv, hB, hg, h2, h3, h4, h5⟩
  · exact .inl h1
  · refine .inr ⟨g, cap, cur, hv, hB, ?_, h2, h3, h4, h5⟩
    have hlt : g < w.heap.size := (Array.getElem?_eq_some_iff.1 hg).1
    rw [hb.block g hlt]; exact hg
theorem ownsRow_cap {w : World} {B : Nat} {e : TypeId} {s : Nat} {v : Value} {n : Nat} {xs : List Value} (h : w.ownsRow B e s v n xs) : Cap v := by
  obtain ⟨_, h1⟩ := h
  rcases h1 with ⟨rfl, _⟩ | ⟨g, cap, cur, rfl, _, _, h2, h3, _⟩
  · exact ⟨none, 0, 0, Nat.le_refl _, Nat.zero_le _, fun _ => rfl⟩
  · exact ⟨_, n, cap, h2, h3, fun h => by cases h⟩
theorem ownsRow_base {w : World} {B B' : Nat} {e : TypeId} {s : Nat} {v : Value} {n : Nat} {xs : List Value} (h : w.ownsRow B e s v n xs) (hb : B' ≤ B) : w.ownsRow B' e s v n xs := by
  obtain ⟨h0, h1⟩ := h
  refine ⟨h0, ?_⟩
  rcases h1 with h1 | ⟨g, cap, cur, hv, hB, hg, h2, h3, h4, h5⟩
  · exact .inl h1
  · exact .inr ⟨g, cap, cur, hv, Nat.le_trans hb hB, hg, h2, h3, h4, h5⟩
theorem ownsRow_keep {w w' : World} {B B' : Nat} {e : TypeId} {s : Nat} {v : Value} {n : Nat} {xs : List Value} (h : w.ownsRow B e s v n xs) (hlo : ∀ k, v.ownBlock = some k → k < B') (hb : Below B' w w') : w'.ownsRow B e s v n xs := by
  obtain ⟨h0, h1⟩ := h
  refine ⟨h0, ?_⟩
  rcases h1 with h1 | ⟨g, cap, cur, hv, hB, hg, h2, h3, h4, h5⟩
  · exact .inl h1
  · refine .inr ⟨g, cap, cur, hv, hB, ?_, h2, h3, h4, h5⟩
    rw [hb.block g (hlo g (by rw [hv]; rfl))]; exact hg
theorem last6 {w w1 : World} {B : Nat} {p0 p1 p2 p3 p4 p5 : Addr} {x0 x1 x2 x3 x4 x5 : Value} (H : w1.cell? p0 = some x0 ∧ w1.cell? p1 = some x1 ∧ w1.cell? p2 = some x2 ∧ w1.cell? p3 = some x3 ∧ w1.cell? p4 = some x4 ∧ w1.cell? p5 = some x5 ∧ Below B w w1) : Below B w w1 := H.2.2.2.2.2.2
theorem add_plain' (b o j : Nat) : (⟨b, o, none⟩ : Addr).add j = ⟨b, o + j, none⟩ := by
  unfold Addr.add; split <;> simp_all
theorem flat_split {α : Type} (f : α → List Value) (s : Nat) (hs : 0 < s) (hf : ∀ x, (f x).length = s) (l : List α) (j : Nat) (u : Value) (h : (l.flatMap f)[j]? = some u) :
    ∃ i r x, l[i]? = some x ∧ r < s ∧ j = i * s + r ∧ (f x)[r]? = some u := by
  have hj : j < l.length * s := by rw [← flat_len f s hf]; exact (List.getElem?_eq_some_iff.1 h).1
  have hi : j / s < l.length := by rw [Nat.div_lt_iff_lt_mul hs]; exact hj
  have hd : j = j / s * s + j % s := by rw [Nat.mul_comm]; exact (Nat.div_add_mod j s).symm
  have hr : j % s < s := Nat.mod_lt _ hs
  refine ⟨j / s, j % s, l[j / s], List.getElem?_eq_getElem hi, hr, hd, ?_⟩
  have := flat_at f s hf l (j / s) (j % s) _ (List.getElem?_eq_getElem hi) hr
  rw [← hd, h] at this
  exact this.symm
theorem SlC.flat {w : World} {b o : Nat} {l : List Cl} (hx : ∀ (j : Nat) x, l[j]? = some x → w.cell? ⟨b, o + j * 4, none⟩ = some (.string (str x.key)) ∧ w.cell? ⟨b, o + j * 4 + 1, none⟩ = some (.string (str x.val)) ∧ w.cell? ⟨b, o + j * 4 + 2, none⟩ = some (.int .u32 x.chain) ∧ w.cell? ⟨b, o + j * 4 + 3, none⟩ = some (.int .u32 x.long)) :
    ∀ j u, (l.flatMap cellsC)[j]? = some u → w.cell? ((⟨b, o, none⟩ : Addr).add j) = some u := by
  intro j u hj
  obtain ⟨i, r, x, hi, hr, rfl, hu⟩ := flat_split cellsC 4 (by decide) cellsC_len l j u hj
  obtain ⟨h0, h1, h2, h3⟩ := hx i x hi
  rw [add_plain', ← Nat.add_assoc]
  match r, hr, hu with
  | 0, _, hu => simp [cellsC] at hu; rw [← hu]; exact h0
  | 1, _, hu => simp [cellsC] at hu; rw [← hu]; exact h1
  | 2, _, hu => simp [cellsC] at hu; rw [← hu]; exact h2
  | 3, _, hu => simp [cellsC] at hu; rw [← hu]; exact h3
theorem SlK.flat {w : World} {b o : Nat} {l : List Kd} (hx : ∀ (j : Nat) x, l[j]? = some x → w.cell? ⟨b, o + j * 2, none⟩ = some (.string (str x.key)) ∧ w.cell? ⟨b, o + j * 2 + 1, none⟩ = some (.int .u32 x.page)) :
    ∀ j u, (l.flatMap cellsK)[j]? = some u → w.cell? ((⟨b, o, none⟩ : Addr).add j) = some u := by
  intro j u hj
  obtain ⟨i, r, x, hi, hr, rfl, hu⟩ := flat_split cellsK 2 (by decide) cellsK_len l j u hj
  obtain ⟨h0, h1⟩ := hx i x hi
  rw [add_plain', ← Nat.add_assoc]
  match r, hr, hu with
  | 0, _, hu => simp [cellsK] at hu; rw [← hu]; exact h0
  | 1, _, hu => simp [cellsK] at hu; rw [← hu]; exact h1
theorem flat_oneC (l : List Cl) : ∀ u ∈ l.flatMap cellsC, u.oneCell' = true := by
  intro u hu
  obtain ⟨x, _, h⟩ := List.mem_flatMap.1 hu
  exact cellsC_one x u h
theorem flat_oneK (l : List Kd) : ∀ u ∈ l.flatMap cellsK, u.oneCell' = true := by
  intro u hu
  obtain ⟨x, _, h⟩ := List.mem_flatMap.1 hu
  exact cellsK_one x u h
end Go.Proofs.Ytdkkcogjkeonkaa
