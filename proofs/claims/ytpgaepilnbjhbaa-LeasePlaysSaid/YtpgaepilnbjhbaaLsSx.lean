/- LeasePlays: what a drawn region of the law holds. -/
import Derived.Test.YtpgaepilnbjhbaaLsSt2
import Derived.Test.YtpgaepilnbjhbaaLsSlW
import Derived.Deep.LoopGhost
import Derived.Deep.DeepCutAuto
import Derived.Deep.CutRange
import Derived.Deep.CutBlock
import Derived.Deep.RegionHeld3
set_option maxRecDepth 100000
set_option maxHeartbeats 4000000
set_option linter.unusedVariables false
namespace Go.Proofs.Ytpgaepilnbjhbaa
open Go.RowKit
open Ls (Txt Ln Ms sameL ltL low Mono Srt Uni free lend)
attribute [local go_sem] Oper.semAt_some store_fn store_nil
theorem st_start {w w2 : World} (hb : Below w.heap.size w w2) : St w w2.heap.size [] [] (.slice none 0 0) (.slice none 0 0) (.slice none 0 0) (.slice none 0 0) (w2.alloc (.cells #[CMP, .slice none 0 0] 27)) :=
  ⟨Boxed2.new _ _ _ _, SlT.nil _ _, SlT.nil _ _, ⟨[], RowG.nil _ _ _ _ _, rfl, fun i x m h => by simp at h⟩, ⟨[], RowG.nil _ _ _ _ _, rfl, fun i x m h => by simp at h⟩, (fun e => by simp [Value.ownBlock] at e), List.Pairwise.nil, List.Pairwise.nil, Nat.le_refl _, (fun m h => by simp at h), Nat.zero_le _, on hb (Nat.le_refl _) (below_alloc _ _), hb.size⟩
/-- An act's box. -/
def AB (W : World) (b : Nat) (a : Ac) : Prop := W.heap[b]? = some (.cells #[.int .i64 a.d, .string (str a.q), .int .u64 a.id, .int .u64 a.n] 36)
theorem AB.new (W : World) (a : Ac) : AB (W.alloc (.cells #[.int .i64 a.d, .string (str a.q), .int .u64 a.id, .int .u64 a.n] 36)) W.heap.size a := World.alloc_heap_new W _
theorem AB.lt {W : World} {b : Nat} {a : Ac} (h : AB W b a) : b < W.heap.size := (Array.getElem?_eq_some_iff.1 h).1
theorem AB.below {W W' : World} {b : Nat} {a : Ac} (h : AB W b a) (hb : Below W.heap.size W W') : AB W' b a := (hb.block b h.lt).trans h
theorem AB.c {W : World} {b : Nat} {a : Ac} (h : AB W b a) : W.cell? ⟨b, 0, none⟩ = some (.int .i64 a.d) ∧ W.cell? ⟨b, 1, none⟩ = some (.string (str a.q)) ∧ W.cell? ⟨b, 2, none⟩ = some (.int .u64 a.id) ∧ W.cell? ⟨b, 3, none⟩ = some (.int .u64 a.n) := by
  unfold AB at h
  refine ⟨?_, ?_, ?_, ?_⟩ <;> simp [World.cell?, h]
theorem at4 {w : World} {b o : Nat} {l : List Ac} (h : CellsAt cA 4 w b o l) {k : Nat} {x : Ac} (hx : l[k]? = some x) : w.cell? ⟨b, o + k * 4, none⟩ = some (.int .i64 x.d) ∧ w.cell? ⟨b, o + k * 4 + 1, none⟩ = some (.string (str x.q)) ∧ w.cell? ⟨b, o + k * 4 + 2, none⟩ = some (.int .u64 x.id) ∧ w.cell? ⟨b, o + k * 4 + 3, none⟩ = some (.int .u64 x.n) :=
  ⟨h k x hx 0 _ rfl, h k x hx 1 _ rfl, h k x hx 2 _ rfl, h k x hx 3 _ rfl⟩
theorem free_t (x : Ln) (sl : Value) (L : List Ln) (hl : L.length ≤ 1000) (hu : Uni sameL L) (W : World) (h : SlT 80 W sl L) :
    Calls Try.prog 8 #[.agg #[.func (.func 29) #[] #[], sl], .agg #[.string (str x.q), .int .u64 x.id]] W fun e w' => ∃ v, e = .returned (.agg #[.func (.func 29) #[] #[], v]) ∧ SlT 80 w' v (free sameL x L) ∧ Below W.heap.size W w' :=
  (freeL_any _ (.inl ⟨_, rfl⟩) sl L hl hu x W h.g).mono fun _ _ h' => h'.slT h
theorem lend_t (x : Ln) (sl : Value) (L : List Ln) (hl : L.length ≤ 900) (hu : Uni sameL L) (hs : Srt ltL L) (W : World) (h : SlT 80 W sl L) :
    Calls Try.prog 14 #[.agg #[.func (.func 29) #[] #[], sl], .agg #[.string (str x.q), .int .u64 x.id], .int .u64 x.t] W fun e w' => ∃ v, e = .returned (.agg #[.func (.func 29) #[] #[], v]) ∧ SlT 80 w' v (lend ltL sameL x L) ∧ Below W.heap.size W w' :=
  (lendK_any sl L hl hu hs x W h.g).mono fun _ _ h' => h'.slT
theorem rfree_t (x : Ln) (sl : Value) (L : List Ln) (hl : L.length ≤ 1000) (W : World) (h : SlT 45 W sl L) :
    Calls Try.prog 9 #[sl, .string (str x.q), .int .u64 x.id] W fun e w' => ∃ v, e = .returned v ∧ SlT 45 w' v (free sameL x L) ∧ Below W.heap.size W w' :=
  (rFree_any x sl L hl W h.g).mono fun _ _ ⟨v, he, hr, hb⟩ => ⟨v, he, hr.slT, hb⟩
theorem rlend_t (x : Ln) (sl : Value) (L : List Ln) (hl : L.length ≤ 1000) (W : World) (h : SlT 45 W sl L) :
    Calls Try.prog 15 #[sl, .agg #[.string (str x.q), .int .u64 x.id, .int .u64 x.t]] W fun e w' => ∃ v, e = .returned v ∧ SlT 45 w' v (lend ltL sameL x L) ∧ Below W.heap.size W w' :=
  (rLend_any x sl L hl W h.g).mono fun _ _ ⟨v, he, hr, hb⟩ => ⟨v, he, by rw [Ls.lend_rins]; exact hr.slT, hb⟩
/-- What a drawn region of the law holds whatever its order: the act's cells, the table's box. -/
def SX (b8 b3 : Nat) (x : Ac) (W : World) : Prop := W.cell? ⟨b8, 0, none⟩ = some (.int .i64 x.d) ∧ W.cell? ⟨b8, 1, none⟩ = some (.string (str x.q)) ∧ W.cell? ⟨b8, 2, none⟩ = some (.int .u64 x.id) ∧ W.cell? ⟨b8, 3, none⟩ = some (.int .u64 x.n) ∧ AB W b8 x ∧ ∃ y0 y1, Boxed2 W b3 27 y0 y1
theorem sx_first {b8 b3 : Nat} {x : Ac} {W : World} {y0 y1 : Value} (h : AB W b8 x) (hb : Boxed2 W b3 27 y0 y1) : SX b8 b3 x W := ⟨h.c.1, h.c.2.1, h.c.2.2.1, h.c.2.2.2, h, y0, y1, hb⟩
theorem sx_step {b8 b3 : Nat} {x : Ac} {W W' : World} (h : SX b8 b3 x W) (hb : Below W.heap.size W W') : SX b8 b3 x W' := by
  obtain ⟨_, _, _, _, h1, y0, y1, h2⟩ := h
  exact sx_first (h1.below hb) (h2.below hb)
theorem sx_set {b8 b3 : Nat} {x : Ac} {W : World} {z0 z1 : Value} (h : SX b8 b3 x W) : SX b8 b3 x ((W.setCell ⟨b3, 0, none⟩ z0).setCell ⟨b3, 1, none⟩ z1) := by
  obtain ⟨_, _, _, _, h1, y0, y1, h2⟩ := h
  exact sx_first (stay_set (T := 27) h2 (by decide) _ _ h1) (h2.set z0 z1)
theorem ab_set {b8 b3 : Nat} {x : Ac} {W : World} {y0 y1 z0 z1 : Value} (h1 : AB W b8 x) (h2 : Boxed2 W b3 27 y0 y1) : AB ((W.setCell ⟨b3, 0, none⟩ z0).setCell ⟨b3, 1, none⟩ z1) b8 x := stay_set (T := 27) h2 (by decide) _ _ h1
end Go.Proofs.Ytpgaepilnbjhbaa
