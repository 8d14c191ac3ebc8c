/- The contract of Parts. -/
import Derived.Test.YtfoijhofpjaldaaDoorPartFn
set_option maxRecDepth 100000
set_option maxHeartbeats 4000000
set_option linter.unusedVariables false
namespace Go.Proofs.YtfoijhofpjaldaaDoor
open Go.RowKit
inductive PartsOut (K : List UInt8) (w : World) (e : Ending) (w' : World) : Prop
  | ok (l : List Ord.P) (hl : ∀ p ∈ l, p.ok) (hK : K = Ord.key l) (h255 : K.length ≤ 255) (a : Option Addr) (n c : Nat) (hn : n = l.length) (he : e = .returned (.tuple #[.slice a n c, .int .i64 0])) (hs : Sl w' (.slice a n c) l) (hb : Below w.heap.size w w')
  | bad (hno : K.length ≤ 255 → ∀ l, (∀ p ∈ l, p.ok) → K ≠ Ord.key l) (he : e = .returned (.tuple #[.slice none 0 0, .int .i64 20])) (hb : Below w.heap.size w w')
theorem own_mod {w w' : World} {b B : Nat} {e : TypeId} {s : Nat} {v : Value} {n : Nat} {xs : List Value} (h : w.ownsRow B e s v n xs) (m : Mod b w w') (hb : b < B) : w'.ownsRow B e s v n xs := by
  obtain ⟨h0, h1⟩ := h
  refine ⟨h0, ?_⟩
  rcases h1 with h1 | ⟨g, cap, cur, hv, hg, hh, rest⟩
  · exact .inl h1
  · have hlt : g < w.heap.size := by
      rcases Nat.lt_or_ge g w.heap.size with h' | h'
      · exact h'
      · rw [Array.getElem?_eq_none h'] at hh; cases hh
    exact .inr ⟨g, cap, cur, hv, hg, by rw [m.block g hlt (by omega), hh], rest⟩
theorem key_len (l : List Ord.P) : l.length ≤ (Ord.key l).length := by
  induction l with
  | nil => exact Nat.le_refl _
  | cons p l ih =>
    rw [Ord.key_cons, List.length_append, List.length_cons]
    have := List.length_pos_iff.2 (Ord.pb_ne p)
    omega
theorem cellsP_new (w : World) (p : Ord.P) (o : Obj) (T : TypeId) : ∀ (j : Nat) u, (cellsP p)[j]? = some u →
    ((w.alloc o).alloc (.cells #[.bool p.t, .int .u64 p.n, .string (str p.s)] T)).cell? ((⟨w.heap.size + 1, 0, none⟩ : Addr).add j) = some u := by
  intro j u hj
  unfold cellsP at hj
  match j, hj with
  | 0, hj => simp at hj; subst hj; simp [Addr.add]
  | 1, hj => simp at hj; subst hj; simp [Addr.add]
  | 2, hj => simp at hj; subst hj; simp [Addr.add]
  | (j + 3), hj => simp at hj
theorem cellsP_one (p : Ord.P) : ∀ u ∈ cellsP p, u.oneCell' = true := by
  intro u hu
  simp [cellsP] at hu
  rcases hu with rfl | rfl | rfl <;> rfl
theorem nil_str : str [] = ⟨#[]⟩ := rfl
end Go.Proofs.YtfoijhofpjaldaaDoor
