/- The law's calls of Due, Until, row and Same, over rows whose blocks' type is told. -/
import Derived.Test.YtpgaepilnbjhbaaLsSt3
import Derived.Test.YtpgaepilnbjhbaaLsRefS
set_option maxRecDepth 100000
set_option maxHeartbeats 4000000
set_option linter.unusedVariables false
namespace Go.Proofs.Ytpgaepilnbjhbaa
open Go.RowKit
open Ls (Txt Ln Ms sameL ltL low Mono Srt Uni free lend)
theorem RowG.set2 {α : Type} {f : α → List Value} {s : Nat} {T T' : TypeId} {W : World} {B b : Nat} {v x0 x1 : Value} {l : List α} (h : RowG f s T W B v l) (hb : Boxed2 W b T' x0 x1) (hne : T' ≠ T) (y0 y1 : Value) : RowG f s T ((W.setCell ⟨b, 0, none⟩ y0).setCell ⟨b, 1, none⟩ y1) B v l :=
  h.keep fun g hg => by
    have hk : g ≠ b := fun e => h.not_row hb hne (by rw [hg, e])
    rw [Below.heap_setCell _ _ _ _ hk, Below.heap_setCell _ _ _ _ hk]
theorem SlG.at_ {α : Type} {f : α → List Value} {s : Nat} {w : World} {a : Option Addr} {D c : Nat} {l : List α} (h : SlG f s w (.slice a D c) l) {k : Nat} (hk : k < D) : ∃ b o, a = some ⟨b, o, none⟩ ∧ CellsAt f s w b o l ∧ D ≤ c ∧ c ≤ maxLen := by
  obtain ⟨a', b, o, c', hv, h1, h2, h3, h4, h5⟩ := h.get
  injection hv with e1 e2 e3
  subst e1 e2 e3
  exact ⟨b, o, h4.resolve_left (fun h' => by have := h3 h'; omega), h5, h1, h2⟩
def dueP (n : Nat) (e : Ln) : Bool := decide (e.t ≤ n)
theorem due_t (n : Nat) (sl : Value) (L : List Ln) (hl : L.length ≤ 1000) (hs : Srt ltL L) (D : Nat) (hD : D = (L.filter (dueP n)).length) (W : World) (h : SlT 80 W sl L) :
    Calls Try.prog 10 #[.agg #[CMP, sl], .int .u64 n] W fun e w' => ∃ a c v, e = .returned (.tuple #[.slice a D c, .agg #[CMP, v]]) ∧ RowG cM 2 34 w' W.heap.size (.slice a D c) ((L.filter (dueP n)).map keyL) ∧ SlT 80 w' v (L.filter fun e => !dueP n e) ∧ Below W.heap.size W w' := by
  obtain ⟨h1, h2⟩ := Ls.filter_low (p := dueP n) (Ls.srtT hs n)
  refine (dueT_any CMP (.inl ⟨_, rfl⟩) sl n L hl W h).mono fun e w' ⟨v, v2, he, hr, hs, hb⟩ => ?_
  have e1 : L.take (low (fun e => decide (e.t ≤ n)) L) = L.filter (dueP n) := h1.symm
  have e2 : L.drop (low (fun e => decide (e.t ≤ n)) L) = L.filter fun e => !dueP n e := h2.symm
  rw [e1] at hr
  rw [e2] at hs
  obtain ⟨a, c, rfl⟩ := hr.slice
  rw [List.length_map, ← hD] at he hr
  exact ⟨a, c, v2, he, hr, hs, hb⟩
theorem rdue_t (n : Nat) (sl : Value) (L : List Ln) (hl : L.length ≤ 1000) (D : Nat) (hD : D = (L.filter (dueP n)).length) (W : World) (h : SlT 45 W sl L) :
    Calls Try.prog 11 #[sl, .int .u64 n] W fun e w' => ∃ a c v, e = .returned (.tuple #[.slice a D c, v]) ∧ SlG cL 3 w' (.slice a D c) (L.filter (dueP n)) ∧ SlT 45 w' v (L.filter fun e => !dueP n e) ∧ Below W.heap.size W w' := by
  refine (rDue_any n sl L hl W h.g).mono fun e w' ⟨va, vb, he, h1, h2, hb⟩ => ?_
  have h1 : RowG cL 3 45 w' W.heap.size va (L.filter (dueP n)) := h1
  obtain ⟨a, c, rfl⟩ := h1.slice
  rw [← hD] at he h1
  exact ⟨a, c, vb, he, h1.sl encL, h2.slT, hb⟩
/-- What is left is in order. -/
theorem St.duePut {w0 W : World} {b3 n : Nat} {L : List Ln} {Ms : List (List Ln)} {sl sl' v4 v5 v6 : Value} (h : St w0 b3 L Ms sl v4 v5 v6 W) (hl : L.length + 1 ≤ Ms.length) (hs : SlT 80 W sl' (L.filter fun e => !dueP n e)) :
    St0 w0 b3 (L.filter fun e => !dueP n e) Ms sl' v5 v6 ((W.setCell ⟨b3, 0, none⟩ CMP).setCell ⟨b3, 1, none⟩ sl') ∧ SlT 45 ((W.setCell ⟨b3, 0, none⟩ CMP).setCell ⟨b3, 1, none⟩ sl') v4 L := h.keepPut hl hs
theorem until_t (x : Ln) (sl : Value) (L : List Ln) (hl : L.length ≤ 1000) (hu : Uni sameL L) (U : Nat) (B : Bool) (hU : (untilR x.q x.id L).getD 0 = U) (hB : (untilR x.q x.id L).isSome = B) (W : World) (h : SlT 80 W sl L) :
    Calls Try.prog 16 #[.agg #[CMP, sl], .agg #[.string (str x.q), .int .u64 x.id]] W fun e w' => e = .returned (.tuple #[.int .u64 (U : Int), .bool B]) ∧ Below W.heap.size W w' := by
  subst hU hB
  exact until_any CMP (.inl ⟨_, rfl⟩) sl x L hl hu W h.g
theorem runtil_t (x : Ln) (sl : Value) (L : List Ln) (hl : L.length ≤ 1000) (U : Nat) (B : Bool) (hU : (untilR x.q x.id L).getD 0 = U) (hB : (untilR x.q x.id L).isSome = B) (W : World) (h : SlT 45 W sl L) :
    Calls Try.prog 17 #[sl, .string (str x.q), .int .u64 x.id] W fun e w' => e = .returned (.tuple #[.int .u64 (U : Int), .bool B]) ∧ Below W.heap.size W w' := by
  subst hU hB
  exact rUntil_any x.q x.id sl L hl W h.g
theorem row_t (sl : Value) (L : List Ln) (hl : L.length ≤ 1000) (W : World) (h : SlT 80 W sl L) :
    Calls Try.prog 19 #[.agg #[CMP, sl]] W fun e w' => ∃ a c, e = .returned (.slice a L.length c) ∧ SlT 45 w' (.slice a L.length c) L ∧ Below W.heap.size W w' :=
  (row_any 29 sl L hl W h.g).mono fun _ _ ⟨v, he, hr, hb⟩ => by
    obtain ⟨a, c, rfl⟩ := hr.slice
    exact ⟨a, c, he, hr.slT, hb⟩
theorem same_t (s1 s2 : Value) (L : List Ln) (hl : L.length ≤ 1000) (W : World) (h : SlT 45 W s1 L) (h' : SlT 45 W s2 L) :
    Calls Try.prog 18 #[s1, s2] W fun e w' => e = .returned (.bool true) ∧ Below W.heap.size W w' :=
  (rSame_any s1 s2 L L hl hl W h.g h'.g).mono fun _ _ ⟨he, hb⟩ => ⟨by rw [he, decide_eq_true rfl], hb⟩
theorem len_t (a : Option Addr) (n c : Nat) (W : World) : Calls Try.prog 20 #[.agg #[CMP, .slice a n c]] W fun e w' => e = .returned (.int .i64 n) ∧ Below W.heap.size W w' :=
  (lenL_any CMP a n c W).mono fun _ _ ⟨he, hw⟩ => ⟨he, by rw [hw]; exact below_alloc _ _⟩
theorem keepAll_n (sl : Value) (L : List Ln) (hl : L.length ≤ 1000) (W : World) (h : SlT 80 W sl L) :
    Calls Try.prog 12 #[.agg #[CMP, sl], .nilFunc] W fun e w' => ∃ a c, e = .returned (.agg #[CMP, .slice a L.length c]) ∧ Below W.heap.size W w' :=
  (keepAll_t sl L hl W h).mono fun _ _ ⟨v, he, hs, hb⟩ => by
    obtain ⟨a, c, rfl⟩ := hs.g.slice
    exact ⟨a, c, he, hb⟩
theorem se_step {W0 W W' : World} {p q r : Addr} {y1 y2 : Value} {m : List Ln} (h : W.cell? p = some CMP ∧ W.cell? q = some y1 ∧ W.cell? r = some y2 ∧ SlT 80 W y1 m ∧ SlT 45 W y2 m ∧ Below W0.heap.size W0 W) (hb : Below W.heap.size W W') : W'.cell? p = some CMP ∧ W'.cell? q = some y1 ∧ W'.cell? r = some y2 ∧ SlT 80 W' y1 m ∧ SlT 45 W' y2 m ∧ Below W0.heap.size W0 W' := by
  obtain ⟨h1, h2, h3, h4, h5, h6⟩ := h
  exact ⟨(hb.cell (p := p) (World.block_lt_of_cell? _ _ h1)).trans h1, (hb.cell (p := q) (World.block_lt_of_cell? _ _ h2)).trans h2, (hb.cell (p := r) (World.block_lt_of_cell? _ _ h3)).trans h3, h4.below hb, h5.below hb, on h6 (Nat.le_refl _) hb⟩
theorem se_row {W0 W : World} {p q r : Addr} {y1 y2 : Value} {m : List Ln} (h : W.cell? p = some CMP ∧ W.cell? q = some y1 ∧ W.cell? r = some y2 ∧ SlT 80 W y1 m ∧ SlT 45 W y2 m ∧ Below W0.heap.size W0 W) : SlT 80 W y1 m := h.2.2.2.1
theorem se_lst {W0 W : World} {p q r : Addr} {y1 y2 : Value} {m : List Ln} (h : W.cell? p = some CMP ∧ W.cell? q = some y1 ∧ W.cell? r = some y2 ∧ SlT 80 W y1 m ∧ SlT 45 W y2 m ∧ Below W0.heap.size W0 W) : SlT 45 W y2 m := h.2.2.2.2.1
theorem se_end {W0 W W' : World} {p q r : Addr} {y1 y2 : Value} {m : List Ln} (h : W.cell? p = some CMP ∧ W.cell? q = some y1 ∧ W.cell? r = some y2 ∧ SlT 80 W y1 m ∧ SlT 45 W y2 m ∧ Below W0.heap.size W0 W) (hb : Below W.heap.size W W') : Below W0.heap.size W0 W' := on h.2.2.2.2.2 (Nat.le_refl _) hb
end Go.Proofs.Ytpgaepilnbjhbaa
