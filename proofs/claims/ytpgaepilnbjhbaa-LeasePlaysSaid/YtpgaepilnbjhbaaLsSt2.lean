/- The law's tables and lists grow by one. -/
import Derived.Test.YtpgaepilnbjhbaaLsSt
set_option maxRecDepth 100000
set_option maxHeartbeats 4000000
set_option linter.unusedVariables false
namespace Go.Proofs.Ytpgaepilnbjhbaa
open Go.RowKit
open Ls (Txt Ln Ms sameL ltL low Mono Srt Uni free lend)
theorem RowG.typed {α : Type} {f : α → List Value} {s : Nat} {T : TypeId} {w : World} {B : Nat} {v : Value} {l : List α} (h : RowG f s T w B v l) : ∀ k, v.ownBlock = some k → ∃ cur, w.heap[k]? = some (.cells cur T) := fun k hk => by
  obtain ⟨_, h1⟩ := h
  rcases h1 with ⟨rfl, _⟩ | ⟨g, cap, cur, rfl, _, hg, _⟩
  · simp [Value.ownBlock] at hk
  · obtain rfl : g = k := by simpa [Value.ownBlock] using hk
    exact ⟨cur, hg⟩
/-- A row grows by one; what the rest of the world keeps. -/
theorem push {α : Type} {f : α → List Value} {s : Nat} {TS T : TypeId} {by_ : Nat} {W : World} {B : Nat} (E : Enc f s) (A : App TS T s by_) (hby : by_ ≤ 100) {u : Value} {l : List α} (hu : RowG f s T W B u l) (hB : B ≤ W.heap.size) (hl : l.length ≤ 300000) (x : α) (ty : TypeId) (cs : Array Value) (hcs : cs = (f x).toArray) :
    ∃ v' w1, (Builtin.append_ #[TS, TS] ty #[u, .slice (some ⟨W.heap.size, 0, none⟩) 1 1]).run Try.prog (W.alloc (.cells cs T)) = .ok v' w1 ∧ RowG f s T w1 B v' (l ++ [x]) ∧ Below B W w1 ∧ (∀ (b : Nat) (cur : Array Value) (t : TypeId), W.heap[b]? = some (.cells cur t) → some b ≠ u.ownBlock → w1.heap[b]? = some (.cells cur t)) ∧ (v'.ownBlock = u.ownBlock ∨ v'.ownBlock = some (W.heap.size + 1)) := by
  obtain ⟨v', w1, h1, h2, h3, h4, h5⟩ := app1 E A hby u x ty W hB hu hl cs hcs W.heap.size rfl
  refine ⟨v', w1, h1, h2, h4, fun b cur t hb hne => ?_, h5⟩
  have hlt := (Array.getElem?_eq_some_iff.1 hb).1
  exact (h3.block b (by rw [World.size_alloc]; omega) hne).trans ((Below.heap_alloc W _ b hlt).trans hb)
theorem SlG.sl {v : Value} {l : List Ln} {w : World} (h : SlG cL 3 w v l) : ∃ x : Sl, x.v = v := by
  obtain ⟨a, c, rfl⟩ := h.slice
  exact ⟨⟨a, _, c⟩, rfl⟩
theorem St.push {w0 W : World} {b3 : Nat} {L : List Ln} {Ms : List (List Ln)} {sl v4 v5 v6 : Value} (h : St w0 b3 L Ms sl v4 v5 v6 W) (hf : Ms.length ≤ 50) (ty ty' : TypeId) :
    ∃ v5' w1 v6' w2, (Builtin.append_ #[30, 30] ty #[v5, .slice (some ⟨W.heap.size, 0, none⟩) 1 1]).run Try.prog (W.alloc (.cells #[CMP, sl] 27)) = .ok v5' w1 ∧
      (Builtin.append_ #[31, 31] ty' #[v6, .slice (some ⟨w1.heap.size, 0, none⟩) 1 1]).run Try.prog (w1.alloc (.cells #[v4] 29)) = .ok v6' w2 ∧ St w0 b3 L (Ms ++ [L]) sl v4 v5' v6' w2 ∧ Below w0.heap.size W w2 ∧
      (∀ (b : Nat) (cur : Array Value) (t : TypeId), W.heap[b]? = some (.cells cur t) → t ≠ 27 → t ≠ 29 → w2.heap[b]? = some (.cells cur t)) ∧ ∃ a n c a' n' c', v5' = .slice a n c ∧ v6' = .slice a' n' c' := by
  obtain ⟨x, hx⟩ := h.tab.g.sl
  obtain ⟨y, hy⟩ := h.lst.g.sl
  obtain ⟨s, h1, h2⟩ := h.T
  obtain ⟨s', h3, h4⟩ := h.P
  have hs := h2.1
  have hs' := h4.1
  obtain ⟨v5', w1, r1, R1, B1, K1, o1⟩ := Go.Proofs.Ytpgaepilnbjhbaa.push encT appT (by decide) h1 h.bel.size (by omega) x ty #[CMP, sl] (by rw [← hx]; rfl)
  have k1 : ∀ (T : TypeId), T ≠ 27 → ∀ v m, SlT T W v m → SlT T w1 v m := fun T hT v m hv => hv.stay fun b cur hb => K1 b cur T hb (h1.not_row hb hT)
  have q3 : RowG cP 1 29 w1 w0.heap.size v6 s' := h3.keep fun g hg => by
    obtain ⟨cur, hc⟩ := h3.typed g hg
    exact (K1 g cur _ hc (h1.not_row hc (by decide))).trans hc.symm
  obtain ⟨v6', w2, r2, R2, B2, K2, o2⟩ := Go.Proofs.Ytpgaepilnbjhbaa.push encP appP (by decide) q3 (Nat.le_trans h.bel.size B1.size) (by omega) y ty' #[v4] (by rw [← hy]; rfl)
  have k2 : ∀ (T : TypeId), T ≠ 29 → ∀ v m, SlT T w1 v m → SlT T w2 v m := fun T hT v m hv => hv.stay fun b cur hb => K2 b cur T hb (q3.not_row hb hT)
  have kk : ∀ (T : TypeId), T ≠ 27 → T ≠ 29 → ∀ v m, SlT T W v m → SlT T w2 v m := fun T hT hT' v m hv => k2 T hT' v m (k1 T hT v m hv)
  have hb1 : Boxed2 w1 b3 27 CMP sl := K1 b3 _ _ h.box (Ne.symm h.ne)
  have hb2 : Boxed2 w2 b3 27 CMP sl := K2 b3 _ _ hb1 (q3.not_row hb1 (by decide))
  have R1' : RowG cT 2 27 w2 w0.heap.size v5' (s ++ [x]) := R1.keep fun g hg => by
    obtain ⟨cur, hc⟩ := R1.typed g hg
    exact (K2 g cur _ hc (q3.not_row hc (by decide))).trans hc.symm
  have htab := kk _ (by decide) (by decide) _ _ h.tab
  have hlst := kk _ (by decide) (by decide) _ _ h.lst
  refine ⟨v5', w1, v6', w2, r1, r2, ⟨hb2, htab, hlst, ⟨_, R1', (h2.map (kk _ (by decide) (by decide))).snoc (by rw [hx]; exact htab)⟩, ⟨_, R2, (h4.map (kk _ (by decide) (by decide))).snoc (by rw [hy]; exact hlst)⟩, ?_, h.srt, h.uni, ?_, ?_, ?_, h.bel.trans (B1.trans B2), h.hb⟩, B1.trans B2, ?_, ?_⟩
  · have hlt := h.box.lt
    rcases o1 with o | o
    · rw [o]; exact h.ne
    · rw [o]; intro e; injection e with e; omega
  · rw [List.length_append]; have := h.len; omega
  · intro m hm
    rcases List.mem_append.1 hm with hm | hm
    · exact h.all m hm
    · simp at hm; subst hm; have := h.len; omega
  · rw [List.length_append]; simp; omega
  · intro b cur t hb hT hT'
    have hb1 := K1 b cur t hb (h1.not_row hb hT)
    exact K2 b cur t hb1 (q3.not_row hb1 hT')
  · obtain ⟨a, n, c, e⟩ := R1.slice'
    obtain ⟨a', n', c', e'⟩ := R2.slice'
    exact ⟨a, n, c, a', n', c', e, e'⟩
end Go.Proofs.Ytpgaepilnbjhbaa
