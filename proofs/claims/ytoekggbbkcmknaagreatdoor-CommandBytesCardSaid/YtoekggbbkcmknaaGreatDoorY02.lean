/- Texts of one seat, merged. -/
import Derived.Test.YtoekggbbkcmknaaGreatDoorY01
import Derived.OwnWalk
import Derived.Laws.OwnMore
import Derived.Laws.StructEq
import Derived.Laws.EntriesVeiled
import Derived.Deep.DeepCutAuto
import Derived.Deep.RegionHeld3
import Derived.Deep.RegionWith
import Derived.Deep.LoopGhost
import Derived.Deep.QuietTactic
import Derived.StillTailTactics
import Derived.BigQuiet
set_option maxRecDepth 100000
set_option maxHeartbeats 4000000
set_option linter.unusedVariables false
/- What stays as it was while one block is turned. -/
namespace Go.Proofs.YtoekggbbkcmknaaGreatDoor
open Go.RowKit
/-- Of what was there nothing has turned but block b. -/
structure Mod (b : Nat) (w w' : World) : Prop where
  os : w'.os = w.os
  tape : w'.tape = w.tape
  output : w'.output = w.output
  size : w.heap.size ≤ w'.heap.size
  block : ∀ k, k < w.heap.size → k ≠ b → w'.heap[k]? = w.heap[k]?
theorem Mod.refl (b : Nat) (w : World) : Mod b w w := ⟨rfl, rfl, rfl, Nat.le_refl _, fun _ _ _ => rfl⟩
theorem Mod.trans {b : Nat} {u v w : World} (h : Mod b u v) (k : Mod b v w) : Mod b u w :=
  ⟨k.os.trans h.os, k.tape.trans h.tape, k.output.trans h.output, Nat.le_trans h.size k.size, fun i hi hne => (k.block i (Nat.lt_of_lt_of_le hi h.size) hne).trans (h.block i hi hne)⟩
theorem Mod.upd {b : Nat} {u v w : World} (h : Mod b u v) (k : Upd b v w) : Mod b u w :=
  h.trans ⟨k.os, k.tape, k.output, Nat.le_of_eq k.size.symm, fun i _ hne => k.block i hne⟩
theorem Mod.step {b : Nat} {u v w : World} (h : Mod b u v) (k : Below v.heap.size v w) : Mod b u w :=
  h.trans ⟨k.os, k.tape, k.output, k.size, fun i hi _ => k.block i hi⟩
theorem Mod.alloc {b : Nat} {u v : World} (h : Mod b u v) (o : Obj) : Mod b u (v.alloc o) := h.step ((Below.refl _ _).alloc (Nat.le_refl _) _)
theorem Mod.below {b B : Nat} {w w' : World} (h : Mod b w w') (hb : B ≤ b) (hB : B ≤ w.heap.size) : Below B w w' :=
  ⟨h.os, h.tape, h.output, h.size, fun k hk => h.block k (by omega) (by omega)⟩
theorem Mod.cell {b : Nat} {w w' : World} (h : Mod b w w') {p : Addr} (hp : p.block < w.heap.size) (hne : p.block ≠ b) : w'.cell? p = w.cell? p := World.cell?_of_block (w := w) (h.block p.block hp hne)
theorem Mod.frozen {b : Nat} {w w' : World} (h : Mod b w w') {p : Addr} (hp : p.block < w.heap.size) (hne : p.block ≠ b) : w'.frozen? p = w.frozen? p := World.frozen?_of_block (w := w) (h.block p.block hp hne)
theorem Mod.step' {b : Nat} {u v w : World} (h : Mod b u v) (k : Below u.heap.size v w) : Mod b u w :=
  ⟨k.os.trans h.os, k.tape.trans h.tape, k.output.trans h.output, Nat.le_trans h.size k.size, fun i hi hne => (k.block i hi).trans (h.block i hi hne)⟩
theorem Rd.below' {w w' : World} {b B : Nat} {s : ByteArray} {e : Int} (h : Rd w b s e) (hb : Below B w w') (hlt : b < B) : Rd w' b s e := by
  have hB := hb.block b hlt
  exact ⟨(World.cell?_of_block (w := w) hB).trans h.c0, (World.cell?_of_block (w := w) hB).trans h.c1, (World.frozen?_of_block (w := w) hB).trans h.f0, (World.frozen?_of_block (w := w) hB).trans h.f1⟩
theorem own_upd {w w' : World} {b B : Nat} {e : TypeId} {s : Nat} {v : Value} {n : Nat} {xs : List Value} (h : w.ownsRow B e s v n xs) (u : Upd b w w') (hb : b < B) : w'.ownsRow B e s v n xs := by
  obtain ⟨h0, h1⟩ := h
  refine ⟨h0, ?_⟩
  rcases h1 with h1 | ⟨g, cap, cur, hv, hg, hh, rest⟩
  · exact .inl h1
  · exact .inr ⟨g, cap, cur, hv, hg, by rw [u.block g (by omega), hh], rest⟩
theorem own_mod {w w' : World} {b B : Nat} {e : TypeId} {s : Nat} {v : Value} {n : Nat} {xs : List Value} (h : w.ownsRow B e s v n xs) (m : Mod b w w') (hb : b < B) : w'.ownsRow B e s v n xs := by
  obtain ⟨h0, h1⟩ := h
  refine ⟨h0, ?_⟩
  rcases h1 with h1 | ⟨g, cap, cur, hv, hg, hh, rest⟩
  · exact .inl h1
  · have hlt : g < w.heap.size := by
      rcases Nat.lt_or_ge g w.heap.size with h' | h'
      · exact h'
      · rw [Array.getElem?_eq_none h'] at hh; cases hh
    exact .inr ⟨g, cap, cur, hv, hg, by rw [m.block g hlt (by omega), hh], rest⟩
theorem own_below {w w' : World} {B B' : Nat} {e : TypeId} {s : Nat} {v : Value} {n : Nat} {xs : List Value} (h : w.ownsRow B e s v n xs) (hb : Below B' w w') (hB : w.heap.size ≤ B') : w'.ownsRow B e s v n xs := by
  obtain ⟨h0, h1⟩ := h
  refine ⟨h0, ?_⟩
  rcases h1 with h1 | ⟨g, cap, cur, hv, hg, hh, rest⟩
  · exact .inl h1
  · have hlt : g < w.heap.size := by
      rcases Nat.lt_or_ge g w.heap.size with h' | h'
      · exact h'
      · rw [Array.getElem?_eq_none h'] at hh; cases hh
    exact .inr ⟨g, cap, cur, hv, hg, by rw [hb.block g (by omega), hh], rest⟩
theorem Mod.old {b : Nat} {w w' : World} {o : Obj} (h : Mod b (w.alloc o) w') : Mod b w w' := ((Mod.refl b w).alloc o).trans h
theorem Rd.lt {w : World} {b : Nat} {s : ByteArray} {e : Int} (h : Rd w b s e) : b < w.heap.size := World.block_lt_of_cell? _ _ h.c0
end Go.Proofs.YtoekggbbkcmknaaGreatDoor
/- What a command is in memory. -/
namespace Go.Proofs.YtoekggbbkcmknaaGreatDoor
open Go.RowKit
/-- Of what was there nothing has turned but the listed blocks. -/
structure OffL (S : List Nat) (w w' : World) : Prop where
  os : w'.os = w.os
  tape : w'.tape = w.tape
  output : w'.output = w.output
  size : w.heap.size ≤ w'.heap.size
  block : ∀ k, k < w.heap.size → k ∉ S → w'.heap[k]? = w.heap[k]?
theorem OffL.refl (S : List Nat) (w : World) : OffL S w w := ⟨rfl, rfl, rfl, Nat.le_refl _, fun _ _ _ => rfl⟩
theorem OffL.trans {S : List Nat} {u v w : World} (h : OffL S u v) (k : OffL S v w) : OffL S u w :=
  ⟨k.os.trans h.os, k.tape.trans h.tape, k.output.trans h.output, Nat.le_trans h.size k.size, fun i hi hn => (k.block i (Nat.lt_of_lt_of_le hi h.size) hn).trans (h.block i hi hn)⟩
theorem OffL.upd {S : List Nat} {b : Nat} {u v : World} (h : Upd b u v) (hb : b ∈ S) : OffL S u v :=
  ⟨h.os, h.tape, h.output, Nat.le_of_eq h.size.symm, fun k _ hn => h.block k (fun he => hn (he ▸ hb))⟩
theorem OffL.below {S : List Nat} {u v : World} (h : Below u.heap.size u v) : OffL S u v := ⟨h.os, h.tape, h.output, h.size, fun k hk _ => h.block k hk⟩
theorem OffL.mod {b : Nat} {u v : World} (h : OffL [b] u v) : Mod b u v := ⟨h.os, h.tape, h.output, h.size, fun k hk hn => h.block k hk (by simpa using hn)⟩
theorem OffL.of_mod {b : Nat} {S : List Nat} {u v : World} (h : Mod b u v) (hb : b ∈ S) : OffL S u v := ⟨h.os, h.tape, h.output, h.size, fun k hk hn => h.block k hk (fun he => hn (he ▸ hb))⟩
/-- Blocks that are new don't count. -/
theorem OffL.fresh {b g : Nat} {w u v : World} (h0 : Below w.heap.size w u) (hg : w.heap.size ≤ g) (h : OffL [g, b] u v) : Mod b w v :=
  ⟨h.os.trans h0.os, h.tape.trans h0.tape, h.output.trans h0.output, Nat.le_trans h0.size h.size, fun k hk hn => (h.block k (Nat.lt_of_lt_of_le hk h0.size) (by simp; omega)).trans (h0.block k hk)⟩
/-- A box of a command. -/
structure BxC (w : World) (g : Nat) (c : Cm) : Prop where
  lt : g < w.heap.size
  cell : ∀ (j : Nat) v, c.vals[j]? = some v → w.cell? ⟨g, j, none⟩ = some v
  free : ∀ (j : Nat), j < 18 → w.frozen? ⟨g, j, none⟩ = false
namespace BxC
variable {w w' : World} {g : Nat} {c : Cm}
theorem keep (h : BxC w g c) (hk : w'.heap[g]? = w.heap[g]?) : BxC w' g c := by
  refine ⟨?_, fun j v hv => ?_, fun j hj => ?_⟩
  · have h0 := h.cell 0 _ rfl
    have : w'.cell? ⟨g, 0, none⟩ = some (.int .i64 c.kind) := by
      rw [World.cell?_of_block (w := w) hk]; exact h0
    exact World.block_lt_of_cell? _ _ this
  · rw [World.cell?_of_block (w := w) hk]; exact h.cell j v hv
  · rw [World.frozen?_of_block (w := w) hk]; exact h.free j hj
theorem below (h : BxC w g c) (hb : Below w.heap.size w w') : BxC w' g c := h.keep (hb.block g h.lt)
theorem below' {B : Nat} (h : BxC w g c) (hb : Below B w w') (hg : g < B) : BxC w' g c := h.keep (hb.block g hg)
theorem mod {b : Nat} (h : BxC w g c) (hm : Mod b w w') (hne : g ≠ b) : BxC w' g c := h.keep (hm.block g h.lt hne)
theorem upd {b : Nat} (h : BxC w g c) (hm : Upd b w w') (hne : g ≠ b) : BxC w' g c := h.keep (hm.block g hne)
theorem off {S : List Nat} (h : BxC w g c) (hm : OffL S w w') (hg : g ∉ S) : BxC w' g c := h.keep (hm.block g h.lt hg)
theorem heap (h : BxC w g c) (hh : w'.heap = w.heap) : BxC w' g c := h.keep (by rw [hh])
theorem alloc (h : BxC w g c) (o : Obj) : BxC (w.alloc o) g c := h.below ((Below.refl _ _).alloc (Nat.le_refl _) _)
theorem drew (h : BxC w g c) : BxC w.drew g c := h.keep rfl
theorem drewN (h : BxC w g c) (n : Nat) : BxC (w.drewN n) g c := h.keep rfl
theorem new (w : World) (c : Cm) (T : TypeId) : BxC (w.alloc (.cells #[.int .i64 c.kind, .string c.qn, .int .u32 c.most, .int .u64 c.ttl, .int .u32 c.tries, .string c.qd, .string c.bx, .int .i64 c.bk, .string c.bp, .string c.bq, .string c.ex, .string c.key, .string c.body, .int .u64 c.id, .int .u64 c.token, .int .u64 c.n, .int .u64 c.time, .bool c.dead] T)) w.heap.size c := by
  refine ⟨by simp, fun j v hv => ?_, fun j hj => by simp⟩
  have hj : j < 18 := (List.getElem?_eq_some_iff.1 hv).1
  have hc : j = 0 ∨ j = 1 ∨ j = 2 ∨ j = 3 ∨ j = 4 ∨ j = 5 ∨ j = 6 ∨ j = 7 ∨ j = 8 ∨ j = 9 ∨ j = 10 ∨ j = 11 ∨ j = 12 ∨ j = 13 ∨ j = 14 ∨ j = 15 ∨ j = 16 ∨ j = 17 := by omega
  rcases hc with rfl | rfl | rfl | rfl | rfl | rfl | rfl | rfl | rfl | rfl | rfl | rfl | rfl | rfl | rfl | rfl | rfl | rfl <;> (simp [Cm.vals] at hv; subst hv; simp)
theorem set (h : BxC w g c) (s : Sg) (a : Cm) : BxC (w.setCell ⟨g, s.off, none⟩ (s.val a)) g (s.hand c a) := by
  refine ⟨by simpa [World.setCell] using h.lt, fun j v hv => ?_, fun j hj => by rw [World.frozen?_setCell]; exact h.free j hj⟩
  by_cases he : j = s.off
  · subst he
    rw [World.cell?_setCell_same']
    · cases s <;> exact hv
    · have : ∃ u, c.vals[s.off]? = some u := by cases s <;> exact ⟨_, rfl⟩
      obtain ⟨u, hu⟩ := this
      rw [h.cell _ u hu]; rfl
  · rw [World.cell?_setCell_other _ _ _ _ (fun h => he (by injection h with h1 h2; exact h2.symm))]
    refine h.cell j v ?_
    rw [← hv]
    have hj : j < 18 := (List.getElem?_eq_some_iff.1 hv).1
    revert he
    have hc : j = 0 ∨ j = 1 ∨ j = 2 ∨ j = 3 ∨ j = 4 ∨ j = 5 ∨ j = 6 ∨ j = 7 ∨ j = 8 ∨ j = 9 ∨ j = 10 ∨ j = 11 ∨ j = 12 ∨ j = 13 ∨ j = 14 ∨ j = 15 ∨ j = 16 ∨ j = 17 := by omega
    rcases hc with rfl | rfl | rfl | rfl | rfl | rfl | rfl | rfl | rfl | rfl | rfl | rfl | rfl | rfl | rfl | rfl | rfl | rfl <;> cases s <;> intro he <;> first | rfl | exact absurd rfl he
end BxC
/-- A box of any cells. -/
structure BxV (w : World) (g : Nat) (vs : List Value) : Prop where
  cell : ∀ (j : Nat) v, vs[j]? = some v → w.cell? ⟨g, j, none⟩ = some v
  free : ∀ (j : Nat), j < vs.length → w.frozen? ⟨g, j, none⟩ = false
namespace BxV
variable {w w' : World} {g : Nat} {vs us : List Value}
theorem keep (h : BxV w g vs) (hk : w'.heap[g]? = w.heap[g]?) : BxV w' g vs := by
  refine ⟨fun j v hv => ?_, fun j hj => ?_⟩
  · rw [World.cell?_of_block (w := w) hk]; exact h.cell j v hv
  · rw [World.frozen?_of_block (w := w) hk]; exact h.free j hj
theorem below' {B : Nat} (h : BxV w g vs) (hb : Below B w w') (hg : g < B) : BxV w' g vs := h.keep (hb.block g hg)
theorem heap (h : BxV w g vs) (hh : w'.heap = w.heap) : BxV w' g vs := h.keep (by rw [hh])
theorem alloc (h : BxV w g vs) (hg : g < w.heap.size) (o : Obj) : BxV (w.alloc o) g vs := h.below' ((Below.refl _ _).alloc (Nat.le_refl _) _) hg
theorem at0 (h : BxV w g vs) (j : Nat) (v : Value) (hv : vs[j]? = some v) : w.cell? ⟨g, j, none⟩ = some v ∧ w.frozen? ⟨g, j, none⟩ = false := ⟨h.cell j v hv, h.free j (List.getElem?_eq_some_iff.1 hv).1⟩
end BxV
def setFrom (w : World) (g : Nat) : Nat → List Value → World
  | _, [] => w
  | o, v :: l => setFrom (w.setCell ⟨g, o, none⟩ v) g (o + 1) l
theorem setFrom_upd (g : Nat) : ∀ (l : List Value) (w : World) (o : Nat), Upd g w (setFrom w g o l)
  | [], w, _ => Upd.refl _ _
  | v :: l, w, o => ((Upd.refl g w).setCell v).trans (setFrom_upd g l _ (o + 1))
theorem setFrom_below {B g : Nat} (hB : B ≤ g) (l : List Value) (w : World) (o : Nat) : Below B w (setFrom w g o l) := (setFrom_upd g l w o).below hB
theorem setFrom_low (g : Nat) : ∀ (l : List Value) (w : World) (o j : Nat), j < o → (setFrom w g o l).cell? ⟨g, j, none⟩ = w.cell? ⟨g, j, none⟩
  | [], _, _, _, _ => rfl
  | v :: l, w, o, j, h => by
    rw [setFrom, setFrom_low g l _ (o + 1) j (by omega), World.cell?_setCell_other _ _ _ _ (fun e => by injection e with _ e; omega)]
theorem setFrom_frozen (g : Nat) : ∀ (l : List Value) (w : World) (o j : Nat), (setFrom w g o l).frozen? ⟨g, j, none⟩ = w.frozen? ⟨g, j, none⟩
  | [], _, _, _ => rfl
  | v :: l, w, o, j => by rw [setFrom, setFrom_frozen g l _ (o + 1) j, World.frozen?_setCell]
theorem setFrom_cell (g : Nat) : ∀ (l : List Value) (w : World) (o : Nat), (∀ j, j < l.length → (w.cell? ⟨g, o + j, none⟩).isSome) → ∀ j v, l[j]? = some v → (setFrom w g o l).cell? ⟨g, o + j, none⟩ = some v
  | [], _, _, _, j, v, h => by simp at h
  | u :: l, w, o, hs, 0, v, h => by
    simp at h
    subst h
    rw [setFrom, setFrom_low g l _ (o + 1) (o + 0) (by omega)]
    exact World.cell?_setCell_same' _ _ _ (hs 0 (by simp))
  | u :: l, w, o, hs, j + 1, v, h => by
    rw [setFrom, show o + (j + 1) = o + 1 + j by omega]
    refine setFrom_cell g l _ (o + 1) (fun k hk => ?_) j v (by simpa using h)
    rw [World.cell?_setCell_other _ _ _ _ (fun e => by injection e with _ e; omega)]
    have := hs (k + 1) (by simpa using hk)
    rwa [show o + (k + 1) = o + 1 + k by omega] at this
theorem BxV.set {w : World} {g : Nat} {us vs : List Value} (h : BxV w g us) (hl : us.length = vs.length) : BxV (setFrom w g 0 vs) g vs := by
  refine ⟨fun j v hv => ?_, fun j hj => by rw [setFrom_frozen]; exact h.free j (by omega)⟩
  have := setFrom_cell g vs w 0 (fun k hk => by
    obtain ⟨u, hu⟩ : ∃ u, us[k]? = some u := ⟨us[k], List.getElem?_eq_getElem (by omega)⟩
    rw [Nat.zero_add, h.cell k u hu]; rfl) j v hv
  rwa [Nat.zero_add] at this
theorem BxV.new (w : World) (vs : Array Value) (T : TypeId) : BxV (w.alloc (.cells vs T)) w.heap.size vs.toList := by
  refine ⟨fun j v hv => ?_, fun j hj => by simp⟩
  have hv' : vs[j]? = some v := by simpa using hv
  simp [hv']
theorem BxC.v {w : World} {g : Nat} {c : Cm} (h : BxC w g c) : BxV w g c.vals := ⟨h.cell, fun j hj => h.free j (by simpa [Cm.vals] using hj)⟩
theorem BxV.c {w : World} {g : Nat} {c : Cm} (h : BxV w g c.vals) : BxC w g c := ⟨World.block_lt_of_cell? _ _ (h.cell 0 _ rfl), h.cell, fun j hj => h.free j (by simpa [Cm.vals] using hj)⟩
theorem ite_step {p : Prop} [Decidable p] {α : Type} {a b : α} (h : p → a = b) : (if p then a else b) = b := by
  by_cases hp : p
  · rw [if_pos hp, h hp]
  · rw [if_neg hp]
set_option maxRecDepth 100000 in
theorem eqAgg (c d : Cm) (w : World) : (Op.equalIn 10000 32 c.agg d.agg).run Tryz.prog w = .ok (decide (c = d)) w := by
  have ts : ∀ a b : ByteArray, a.toList = b.toList → a = b := fun a b h => by
    rw [ByteArray.toList_eq, ByteArray.toList_eq] at h
    obtain ⟨⟨a⟩⟩ := a
    obtain ⟨⟨b⟩⟩ := b
    simp at h
    rw [h]
  unfold Cm.agg
  rw [run_equalIn_agg _ 9999 _ _ _ (by simp [Program.fieldsOf, Tryz.underlying32]) (by kernel_rfl)]
  simp [Program.fieldsOf, Tryz.underlying32, Op.eqFields, go_sem]
  by_cases h : c = d
  · subst h
    rw [decide_eq_true rfl]
    iterate 18 rw [if_pos rfl]
  · rw [decide_eq_false h]
    refine ite_step fun h0 => ?_
    refine ite_step fun h1 => ?_
    refine ite_step fun h2 => ?_
    refine ite_step fun h3 => ?_
    refine ite_step fun h4 => ?_
    refine ite_step fun h5 => ?_
    refine ite_step fun h6 => ?_
    refine ite_step fun h7 => ?_
    refine ite_step fun h8 => ?_
    refine ite_step fun h9 => ?_
    refine ite_step fun h10 => ?_
    refine ite_step fun h11 => ?_
    refine ite_step fun h12 => ?_
    refine ite_step fun h13 => ?_
    refine ite_step fun h14 => ?_
    refine ite_step fun h15 => ?_
    refine ite_step fun h16 => ?_
    refine ite_step fun h17 => ?_
    exfalso
    apply h
    obtain ⟨_, _, _, _, _, _, _, _, _, _, _, _, _, _, _, _, _, _⟩ := c
    obtain ⟨_, _, _, _, _, _, _, _, _, _, _, _, _, _, _, _, _, _⟩ := d
    simp only at *
    simp only [Cm.mk.injEq]
    refine ⟨?_, ?_, ?_, ?_, ?_, ?_, ?_, ?_, ?_, ?_, ?_, ?_, ?_, ?_, ?_, ?_, ?_, ?_⟩ <;> first | assumption | (refine ts _ _ ?_; assumption) | (apply Int.ofNat.inj; assumption)
set_option maxRecDepth 100000 in
theorem eqAggR (c d : Cm) (w : World) : (Op.equalIn 10000 40 c.agg d.agg).run Tryz.prog w = .ok (decide (c = d)) w := by
  have ts : ∀ a b : ByteArray, a.toList = b.toList → a = b := fun a b h => by
    rw [ByteArray.toList_eq, ByteArray.toList_eq] at h
    obtain ⟨⟨a⟩⟩ := a
    obtain ⟨⟨b⟩⟩ := b
    simp at h
    rw [h]
  unfold Cm.agg
  rw [run_equalIn_agg _ 9999 _ _ _ (by simp [Program.fieldsOf, Tryz.underlying40]) (by kernel_rfl)]
  simp [Program.fieldsOf, Tryz.underlying40, Op.eqFields, go_sem]
  by_cases h : c = d
  · subst h
    rw [decide_eq_true rfl]
    iterate 18 rw [if_pos rfl]
  · rw [decide_eq_false h]
    refine ite_step fun h0 => ?_
    refine ite_step fun h1 => ?_
    refine ite_step fun h2 => ?_
    refine ite_step fun h3 => ?_
    refine ite_step fun h4 => ?_
    refine ite_step fun h5 => ?_
    refine ite_step fun h6 => ?_
    refine ite_step fun h7 => ?_
    refine ite_step fun h8 => ?_
    refine ite_step fun h9 => ?_
    refine ite_step fun h10 => ?_
    refine ite_step fun h11 => ?_
    refine ite_step fun h12 => ?_
    refine ite_step fun h13 => ?_
    refine ite_step fun h14 => ?_
    refine ite_step fun h15 => ?_
    refine ite_step fun h16 => ?_
    refine ite_step fun h17 => ?_
    exfalso
    apply h
    obtain ⟨_, _, _, _, _, _, _, _, _, _, _, _, _, _, _, _, _, _⟩ := c
    obtain ⟨_, _, _, _, _, _, _, _, _, _, _, _, _, _, _, _, _, _⟩ := d
    simp only at *
    simp only [Cm.mk.injEq]
    refine ⟨?_, ?_, ?_, ?_, ?_, ?_, ?_, ?_, ?_, ?_, ?_, ?_, ?_, ?_, ?_, ?_, ?_, ?_⟩ <;> first | assumption | (refine ts _ _ ?_; assumption) | (apply Int.ofNat.inj; assumption)
end Go.Proofs.YtoekggbbkcmknaaGreatDoor
/- The parts of a command: what each closure does. -/
namespace Go.Proofs.YtoekggbbkcmknaaGreatDoor
open Go.RowKit
/-- It is a function of the program's own. -/
def Ent (f : FuncId) : Prop := ∀ args w, (callFunc f args).run Tryz.prog w = .ok (.enter f args) w
/-- Where a part lies. -/
def AtF (f : FuncId) (s : Sg) : Prop := Ent f ∧ ∀ (g : Nat) (w : World), Calls Tryz.prog f #[.pointer (some ⟨g, 0, none⟩)] w fun e w' => e = .returned (.pointer (some ⟨g, s.off, none⟩)) ∧ w = w'
theorem ent {f : FuncId} {fn : Func} (hf : Tryz.prog.funcs[f]? = some fn) (h1 : (fn.name == "runtime.NumGoroutine") = false) (h2 : fn.body.isNone = false) : Ent f := by
  intro args w
  have h1' : ¬ fn.name = "runtime.NumGoroutine" := by simpa using h1
  have h2' : ¬ fn.body = none := by intro h; rw [h] at h2; cases h2
  simp [callFunc, go_sem, hf, h1', h2']
theorem at_q : AtF 67 .q := by
  refine ⟨ent Tryz.func67 (by kernel_rfl) (by kernel_rfl), ?_⟩
  intro g w
  go_enter Tryz.func67, Tryz.ntmps67
  go_wp2
  go_ret
  exact ⟨rfl, rfl⟩
theorem at_m : AtF 69 .m := by
  refine ⟨ent Tryz.func69 (by kernel_rfl) (by kernel_rfl), ?_⟩
  intro g w
  go_enter Tryz.func69, Tryz.ntmps69
  go_wp2
  go_ret
  exact ⟨rfl, rfl⟩
theorem at_l : AtF 71 .l := by
  refine ⟨ent Tryz.func71 (by kernel_rfl) (by kernel_rfl), ?_⟩
  intro g w
  go_enter Tryz.func71, Tryz.ntmps71
  go_wp2
  go_ret
  exact ⟨rfl, rfl⟩
theorem at_r : AtF 72 .r := by
  refine ⟨ent Tryz.func72 (by kernel_rfl) (by kernel_rfl), ?_⟩
  intro g w
  go_enter Tryz.func72, Tryz.ntmps72
  go_wp2
  go_ret
  exact ⟨rfl, rfl⟩
theorem at_d : AtF 73 .d := by
  refine ⟨ent Tryz.func73 (by kernel_rfl) (by kernel_rfl), ?_⟩
  intro g w
  go_enter Tryz.func73, Tryz.ntmps73
  go_wp2
  go_ret
  exact ⟨rfl, rfl⟩
theorem at_E : AtF 74 .E := by
  refine ⟨ent Tryz.func74 (by kernel_rfl) (by kernel_rfl), ?_⟩
  intro g w
  go_enter Tryz.func74, Tryz.ntmps74
  go_wp2
  go_ret
  exact ⟨rfl, rfl⟩
theorem at_K : AtF 76 .K := by
  refine ⟨ent Tryz.func76 (by kernel_rfl) (by kernel_rfl), ?_⟩
  intro g w
  go_enter Tryz.func76, Tryz.ntmps76
  go_wp2
  go_ret
  exact ⟨rfl, rfl⟩
theorem at_P : AtF 79 .P := by
  refine ⟨ent Tryz.func79 (by kernel_rfl) (by kernel_rfl), ?_⟩
  intro g w
  go_enter Tryz.func79, Tryz.ntmps79
  go_wp2
  go_ret
  exact ⟨rfl, rfl⟩
theorem at_Q : AtF 80 .Q := by
  refine ⟨ent Tryz.func80 (by kernel_rfl) (by kernel_rfl), ?_⟩
  intro g w
  go_enter Tryz.func80, Tryz.ntmps80
  go_wp2
  go_ret
  exact ⟨rfl, rfl⟩
theorem at_e : AtF 81 .e := by
  refine ⟨ent Tryz.func81 (by kernel_rfl) (by kernel_rfl), ?_⟩
  intro g w
  go_enter Tryz.func81, Tryz.ntmps81
  go_wp2
  go_ret
  exact ⟨rfl, rfl⟩
theorem at_k : AtF 82 .k := by
  refine ⟨ent Tryz.func82 (by kernel_rfl) (by kernel_rfl), ?_⟩
  intro g w
  go_enter Tryz.func82, Tryz.ntmps82
  go_wp2
  go_ret
  exact ⟨rfl, rfl⟩
theorem at_b : AtF 83 .b := by
  refine ⟨ent Tryz.func83 (by kernel_rfl) (by kernel_rfl), ?_⟩
  intro g w
  go_enter Tryz.func83, Tryz.ntmps83
  go_wp2
  go_ret
  exact ⟨rfl, rfl⟩
theorem at_i : AtF 84 .i := by
  refine ⟨ent Tryz.func84 (by kernel_rfl) (by kernel_rfl), ?_⟩
  intro g w
  go_enter Tryz.func84, Tryz.ntmps84
  go_wp2
  go_ret
  exact ⟨rfl, rfl⟩
theorem at_o : AtF 85 .o := by
  refine ⟨ent Tryz.func85 (by kernel_rfl) (by kernel_rfl), ?_⟩
  intro g w
  go_enter Tryz.func85, Tryz.ntmps85
  go_wp2
  go_ret
  exact ⟨rfl, rfl⟩
theorem at_n : AtF 86 .n := by
  refine ⟨ent Tryz.func86 (by kernel_rfl) (by kernel_rfl), ?_⟩
  intro g w
  go_enter Tryz.func86, Tryz.ntmps86
  go_wp2
  go_ret
  exact ⟨rfl, rfl⟩
theorem at_t : AtF 87 .t := by
  refine ⟨ent Tryz.func87 (by kernel_rfl) (by kernel_rfl), ?_⟩
  intro g w
  go_enter Tryz.func87, Tryz.ntmps87
  go_wp2
  go_ret
  exact ⟨rfl, rfl⟩
theorem at_x : AtF 89 .x := by
  refine ⟨ent Tryz.func89 (by kernel_rfl) (by kernel_rfl), ?_⟩
  intro g w
  go_enter Tryz.func89, Tryz.ntmps89
  go_wp2
  go_ret
  exact ⟨rfl, rfl⟩
theorem off_get {g b : Nat} {w W w1 W2 : World} (hu : Upd b W w1) (h1 : Upd g w1 W2) (h0 : W.heap = w.heap) (ho : W.os = w.os) (ht : W.tape = w.tape) (hp : W.output = w.output) : OffL [g, b] w W2 := by
  refine ⟨h1.os.trans (hu.os.trans ho), h1.tape.trans (hu.tape.trans ht), h1.output.trans (hu.output.trans hp), ?_, fun k hk hn => ?_⟩
  · rw [h1.size, hu.size, h0]; exact Nat.le_refl _
  · simp at hn
    rw [h1.block k hn.1, hu.block k hn.2, h0]
theorem val_at (s : Sg) (c : Cm) : c.vals[s.off]? = some (s.val c) := by cases s <;> rfl
theorem off_lt (s : Sg) : s.off < 18 := by cases s <;> decide
end Go.Proofs.YtoekggbbkcmknaaGreatDoor
/- What the closures of a part of type string do. -/
namespace Go.Proofs.YtoekggbbkcmknaaGreatDoor
open Go.RowKit
theorem handS (f : FuncId) (s : Sg) (hf : AtF f s) (a g1 g2 : Nat) (c1 c2 : Cm) (w : World) (ha : w.cell? ⟨a, 0, none⟩ = some (.func (.func f) #[] #[])) (h1 : BxC w g1 c1) (h2 : BxC w g2 c2) (hs : ∃ t : ByteArray, s.val c2 = .string t) :
    Calls Tryz.prog 124 #[.pointer (some ⟨g1, 0, none⟩), .pointer (some ⟨g2, 0, none⟩), .pointer (some ⟨a, 0, none⟩)] w fun e w' => e = .returned (.tuple #[]) ∧ BxC w' g1 (s.hand c1 c2) ∧ Upd g1 w w' := by
  obtain ⟨t, ht⟩ := hs
  have k2 := h2.cell s.off _ (val_at s c2)
  have f1 := h1.free s.off (off_lt s)
  have k1 := h1.cell s.off _ (val_at s c1)
  have HB := Lib.hid (h1.set s c2)
  rw [ht] at HB k2
  clear h1 h2 ht
  obtain ⟨hen, hcl⟩ := hf
  unfold Ent at hen
  go_enter Tryz.func124, Tryz.ntmps124
  go_wp2
  go_region_with ((with_reducible refine (hcl _ _).mono ?_); rintro e w1 ⟨rfl, rfl⟩)
  all_goals
    go_end0
    exact ⟨rfl, HB.out.heap rfl, ((Upd.refl _ _).setCell _).drew⟩
theorem putS (f : FuncId) (s : Sg) (hf : AtF f s) (a p : Nat) (fp : FuncId) (g : Nat) (c : Cm) (w : World) (ha : w.cell? ⟨a, 0, none⟩ = some (.func (.func f) #[] #[])) (hp : w.cell? ⟨p, 0, none⟩ = some (.func (.func fp) #[] #[]))
    (h : BxC w g c) (hs : ∃ t : ByteArray, s.val c = .string t) (he : Ent fp) (hput : ∀ W, Calls Tryz.prog fp #[s.val c] W fun e w' => e = .returned (.string (str (s.enc c))) ∧ Below W.heap.size W w') :
    Calls Tryz.prog 126 #[.pointer (some ⟨g, 0, none⟩), .pointer (some ⟨p, 0, none⟩), .pointer (some ⟨a, 0, none⟩)] w fun e w' => e = .returned (.string (str (s.enc c))) ∧ Below w.heap.size w w' := by
  obtain ⟨t, ht⟩ := hs
  have k := h.cell s.off _ (val_at s c)
  rw [ht] at k hput
  clear h ht
  obtain ⟨hen, hcl⟩ := hf
  unfold Ent at hen he
  go_enter Tryz.func126, Tryz.ntmps126
  go_wp2
  go_region_with (first
    | ((with_reducible refine (hcl _ _).mono ?_); rintro e w1 ⟨rfl, rfl⟩)
    | ((with_reducible refine (hput _).mono ?_); rintro e w1 ⟨rfl, hb⟩))
  all_goals
    go_wp2
    go_ret
    exact ⟨rfl, ((Below.refl _ _).drew).trans hb⟩
theorem getS (f : FuncId) (s : Sg) (hf : AtF f s) (a q : Nat) (fg : FuncId) (cg : Array Value) (g b : Nat) (c d : Cm) (r : ByteArray) (e1 : Int) (w : World) (ha : w.cell? ⟨a, 0, none⟩ = some (.func (.func f) #[] #[])) (hq : w.cell? ⟨q, 0, none⟩ = some (.func (.func fg) #[] cg))
    (h : BxC w g c) (hgb : g ≠ b) (hs : ∃ t : ByteArray, s.val d = .string t) (he : Ent fg) (hget : ∀ W, W.heap = w.heap → Calls Tryz.prog fg (#[.pointer (some ⟨b, 0, none⟩)] ++ cg) W fun e w' => e = .returned (s.val d) ∧ Rd w' b r e1 ∧ Upd b W w') :
    Calls Tryz.prog 127 #[.pointer (some ⟨g, 0, none⟩), .pointer (some ⟨b, 0, none⟩), .pointer (some ⟨q, 0, none⟩), .pointer (some ⟨a, 0, none⟩)] w fun e w' => e = .returned (.tuple #[]) ∧ BxC w' g (s.hand c d) ∧ Rd w' b r e1 ∧ OffL [g, b] w w' := by
  obtain ⟨t, ht⟩ := hs
  have H := Lib.hid h
  rw [ht] at hget
  have HT := Lib.hid ht
  clear h ht
  obtain ⟨hen, hcl⟩ := hf
  unfold Ent at hen he
  go_enter Tryz.func127, Tryz.ntmps127
  go_wp2
  go_region_with (first
    | ((with_reducible refine (hcl _ _).mono ?_); rintro e w1 ⟨rfl, rfl⟩)
    | ((with_reducible refine (hget _ ?_).mono ?_); (next => rfl); rintro e w1 ⟨rfl, hr, hu⟩; have H1 := Lib.hid ((H.out.heap (w' := w.drew) rfl).upd hu hgb); have k1 := H1.out.cell s.off _ (val_at s c); have f1 := H1.out.free s.off (off_lt s)))
  all_goals
    go_end0
    have hx := H1.out.set s d
    rw [HT.out] at hx
    first
      | exact ⟨rfl, hx.heap rfl, hr.upd ((Upd.refl g _).setCell _) (Ne.symm hgb), off_get hu ((Upd.refl g _).setCell _) rfl rfl rfl rfl⟩
      | exact ⟨rfl, hx.heap rfl, hr.upd (((Upd.refl g _).setCell _).drew) (Ne.symm hgb), off_get hu (((Upd.refl g _).setCell _).drew) rfl rfl rfl rfl⟩
end Go.Proofs.YtoekggbbkcmknaaGreatDoor
/- What the closures of a part of type int do. -/
namespace Go.Proofs.YtoekggbbkcmknaaGreatDoor
open Go.RowKit
theorem handI (f : FuncId) (s : Sg) (hf : AtF f s) (a g1 g2 : Nat) (c1 c2 : Cm) (w : World) (ha : w.cell? ⟨a, 0, none⟩ = some (.func (.func f) #[] #[])) (h1 : BxC w g1 c1) (h2 : BxC w g2 c2) (hs : ∃ t : Int, s.val c2 = .int .i64 t) :
    Calls Tryz.prog 113 #[.pointer (some ⟨g1, 0, none⟩), .pointer (some ⟨g2, 0, none⟩), .pointer (some ⟨a, 0, none⟩)] w fun e w' => e = .returned (.tuple #[]) ∧ BxC w' g1 (s.hand c1 c2) ∧ Upd g1 w w' := by
  obtain ⟨t, ht⟩ := hs
  have k2 := h2.cell s.off _ (val_at s c2)
  have f1 := h1.free s.off (off_lt s)
  have k1 := h1.cell s.off _ (val_at s c1)
  have HB := Lib.hid (h1.set s c2)
  rw [ht] at HB k2
  clear h1 h2 ht
  obtain ⟨hen, hcl⟩ := hf
  unfold Ent at hen
  go_enter Tryz.func113, Tryz.ntmps113
  go_wp2
  go_region_with ((with_reducible refine (hcl _ _).mono ?_); rintro e w1 ⟨rfl, rfl⟩)
  all_goals
    go_end0
    exact ⟨rfl, HB.out.heap rfl, ((Upd.refl _ _).setCell _).drew⟩
theorem putI (f : FuncId) (s : Sg) (hf : AtF f s) (a p : Nat) (fp : FuncId) (g : Nat) (c : Cm) (w : World) (ha : w.cell? ⟨a, 0, none⟩ = some (.func (.func f) #[] #[])) (hp : w.cell? ⟨p, 0, none⟩ = some (.func (.func fp) #[] #[]))
    (h : BxC w g c) (hs : ∃ t : Int, s.val c = .int .i64 t) (he : Ent fp) (hput : ∀ W, Calls Tryz.prog fp #[s.val c] W fun e w' => e = .returned (.string (str (s.enc c))) ∧ Below W.heap.size W w') :
    Calls Tryz.prog 115 #[.pointer (some ⟨g, 0, none⟩), .pointer (some ⟨p, 0, none⟩), .pointer (some ⟨a, 0, none⟩)] w fun e w' => e = .returned (.string (str (s.enc c))) ∧ Below w.heap.size w w' := by
  obtain ⟨t, ht⟩ := hs
  have k := h.cell s.off _ (val_at s c)
  rw [ht] at k hput
  clear h ht
  obtain ⟨hen, hcl⟩ := hf
  unfold Ent at hen he
  go_enter Tryz.func115, Tryz.ntmps115
  go_wp2
  go_region_with (first
    | ((with_reducible refine (hcl _ _).mono ?_); rintro e w1 ⟨rfl, rfl⟩)
    | ((with_reducible refine (hput _).mono ?_); rintro e w1 ⟨rfl, hb⟩))
  all_goals
    go_wp2
    go_ret
    exact ⟨rfl, ((Below.refl _ _).drew).trans hb⟩
theorem getI (f : FuncId) (s : Sg) (hf : AtF f s) (a q : Nat) (fg : FuncId) (cg : Array Value) (g b : Nat) (c d : Cm) (r : ByteArray) (e1 : Int) (w : World) (ha : w.cell? ⟨a, 0, none⟩ = some (.func (.func f) #[] #[])) (hq : w.cell? ⟨q, 0, none⟩ = some (.func (.func fg) #[] cg))
    (h : BxC w g c) (hgb : g ≠ b) (hs : ∃ t : Int, s.val d = .int .i64 t) (he : Ent fg) (hget : ∀ W, W.heap = w.heap → Calls Tryz.prog fg (#[.pointer (some ⟨b, 0, none⟩)] ++ cg) W fun e w' => e = .returned (s.val d) ∧ Rd w' b r e1 ∧ Upd b W w') :
    Calls Tryz.prog 116 #[.pointer (some ⟨g, 0, none⟩), .pointer (some ⟨b, 0, none⟩), .pointer (some ⟨q, 0, none⟩), .pointer (some ⟨a, 0, none⟩)] w fun e w' => e = .returned (.tuple #[]) ∧ BxC w' g (s.hand c d) ∧ Rd w' b r e1 ∧ OffL [g, b] w w' := by
  obtain ⟨t, ht⟩ := hs
  have H := Lib.hid h
  rw [ht] at hget
  have HT := Lib.hid ht
  clear h ht
  obtain ⟨hen, hcl⟩ := hf
  unfold Ent at hen he
  go_enter Tryz.func116, Tryz.ntmps116
  go_wp2
  go_region_with (first
    | ((with_reducible refine (hcl _ _).mono ?_); rintro e w1 ⟨rfl, rfl⟩)
    | ((with_reducible refine (hget _ ?_).mono ?_); (next => rfl); rintro e w1 ⟨rfl, hr, hu⟩; have H1 := Lib.hid ((H.out.heap (w' := w.drew) rfl).upd hu hgb); have k1 := H1.out.cell s.off _ (val_at s c); have f1 := H1.out.free s.off (off_lt s)))
  all_goals
    go_end0
    have hx := H1.out.set s d
    rw [HT.out] at hx
    first
      | exact ⟨rfl, hx.heap rfl, hr.upd ((Upd.refl g _).setCell _) (Ne.symm hgb), off_get hu ((Upd.refl g _).setCell _) rfl rfl rfl rfl⟩
      | exact ⟨rfl, hx.heap rfl, hr.upd (((Upd.refl g _).setCell _).drew) (Ne.symm hgb), off_get hu (((Upd.refl g _).setCell _).drew) rfl rfl rfl rfl⟩
end Go.Proofs.YtoekggbbkcmknaaGreatDoor
/- What the closures of a part of type bool do. -/
namespace Go.Proofs.YtoekggbbkcmknaaGreatDoor
open Go.RowKit
theorem handB (f : FuncId) (s : Sg) (hf : AtF f s) (a g1 g2 : Nat) (c1 c2 : Cm) (w : World) (ha : w.cell? ⟨a, 0, none⟩ = some (.func (.func f) #[] #[])) (h1 : BxC w g1 c1) (h2 : BxC w g2 c2) (hs : ∃ t : Bool, s.val c2 = .bool t) :
    Calls Tryz.prog 117 #[.pointer (some ⟨g1, 0, none⟩), .pointer (some ⟨g2, 0, none⟩), .pointer (some ⟨a, 0, none⟩)] w fun e w' => e = .returned (.tuple #[]) ∧ BxC w' g1 (s.hand c1 c2) ∧ Upd g1 w w' := by
  obtain ⟨t, ht⟩ := hs
  have k2 := h2.cell s.off _ (val_at s c2)
  have f1 := h1.free s.off (off_lt s)
  have k1 := h1.cell s.off _ (val_at s c1)
  have HB := Lib.hid (h1.set s c2)
  rw [ht] at HB k2
  clear h1 h2 ht
  obtain ⟨hen, hcl⟩ := hf
  unfold Ent at hen
  go_enter Tryz.func117, Tryz.ntmps117
  go_wp2
  go_region_with ((with_reducible refine (hcl _ _).mono ?_); rintro e w1 ⟨rfl, rfl⟩)
  all_goals
    go_end0
    exact ⟨rfl, HB.out.heap rfl, ((Upd.refl _ _).setCell _).drew⟩
theorem putB (f : FuncId) (s : Sg) (hf : AtF f s) (a p : Nat) (fp : FuncId) (g : Nat) (c : Cm) (w : World) (ha : w.cell? ⟨a, 0, none⟩ = some (.func (.func f) #[] #[])) (hp : w.cell? ⟨p, 0, none⟩ = some (.func (.func fp) #[] #[]))
    (h : BxC w g c) (hs : ∃ t : Bool, s.val c = .bool t) (he : Ent fp) (hput : ∀ W, Calls Tryz.prog fp #[s.val c] W fun e w' => e = .returned (.string (str (s.enc c))) ∧ Below W.heap.size W w') :
    Calls Tryz.prog 119 #[.pointer (some ⟨g, 0, none⟩), .pointer (some ⟨p, 0, none⟩), .pointer (some ⟨a, 0, none⟩)] w fun e w' => e = .returned (.string (str (s.enc c))) ∧ Below w.heap.size w w' := by
  obtain ⟨t, ht⟩ := hs
  have k := h.cell s.off _ (val_at s c)
  rw [ht] at k hput
  clear h ht
  obtain ⟨hen, hcl⟩ := hf
  unfold Ent at hen he
  go_enter Tryz.func119, Tryz.ntmps119
  go_wp2
  go_region_with (first
    | ((with_reducible refine (hcl _ _).mono ?_); rintro e w1 ⟨rfl, rfl⟩)
    | ((with_reducible refine (hput _).mono ?_); rintro e w1 ⟨rfl, hb⟩))
  all_goals
    go_wp2
    go_ret
    exact ⟨rfl, ((Below.refl _ _).drew).trans hb⟩
theorem getB (f : FuncId) (s : Sg) (hf : AtF f s) (a q : Nat) (fg : FuncId) (cg : Array Value) (g b : Nat) (c d : Cm) (r : ByteArray) (e1 : Int) (w : World) (ha : w.cell? ⟨a, 0, none⟩ = some (.func (.func f) #[] #[])) (hq : w.cell? ⟨q, 0, none⟩ = some (.func (.func fg) #[] cg))
    (h : BxC w g c) (hgb : g ≠ b) (hs : ∃ t : Bool, s.val d = .bool t) (he : Ent fg) (hget : ∀ W, W.heap = w.heap → Calls Tryz.prog fg (#[.pointer (some ⟨b, 0, none⟩)] ++ cg) W fun e w' => e = .returned (s.val d) ∧ Rd w' b r e1 ∧ Upd b W w') :
    Calls Tryz.prog 120 #[.pointer (some ⟨g, 0, none⟩), .pointer (some ⟨b, 0, none⟩), .pointer (some ⟨q, 0, none⟩), .pointer (some ⟨a, 0, none⟩)] w fun e w' => e = .returned (.tuple #[]) ∧ BxC w' g (s.hand c d) ∧ Rd w' b r e1 ∧ OffL [g, b] w w' := by
  obtain ⟨t, ht⟩ := hs
  have H := Lib.hid h
  rw [ht] at hget
  have HT := Lib.hid ht
  clear h ht
  obtain ⟨hen, hcl⟩ := hf
  unfold Ent at hen he
  go_enter Tryz.func120, Tryz.ntmps120
  go_wp2
  go_region_with (first
    | ((with_reducible refine (hcl _ _).mono ?_); rintro e w1 ⟨rfl, rfl⟩)
    | ((with_reducible refine (hget _ ?_).mono ?_); (next => rfl); rintro e w1 ⟨rfl, hr, hu⟩; have H1 := Lib.hid ((H.out.heap (w' := w.drew) rfl).upd hu hgb); have k1 := H1.out.cell s.off _ (val_at s c); have f1 := H1.out.free s.off (off_lt s)))
  all_goals
    go_end0
    have hx := H1.out.set s d
    rw [HT.out] at hx
    first
      | exact ⟨rfl, hx.heap rfl, hr.upd ((Upd.refl g _).setCell _) (Ne.symm hgb), off_get hu ((Upd.refl g _).setCell _) rfl rfl rfl rfl⟩
      | exact ⟨rfl, hx.heap rfl, hr.upd (((Upd.refl g _).setCell _).drew) (Ne.symm hgb), off_get hu (((Upd.refl g _).setCell _).drew) rfl rfl rfl rfl⟩
end Go.Proofs.YtoekggbbkcmknaaGreatDoor
/- What the closures of a part of type uint32 do. -/
namespace Go.Proofs.YtoekggbbkcmknaaGreatDoor
open Go.RowKit
theorem handW (f : FuncId) (s : Sg) (hf : AtF f s) (a g1 g2 : Nat) (c1 c2 : Cm) (w : World) (ha : w.cell? ⟨a, 0, none⟩ = some (.func (.func f) #[] #[])) (h1 : BxC w g1 c1) (h2 : BxC w g2 c2) (hs : ∃ t : Int, s.val c2 = .int .u32 t) :
    Calls Tryz.prog 128 #[.pointer (some ⟨g1, 0, none⟩), .pointer (some ⟨g2, 0, none⟩), .pointer (some ⟨a, 0, none⟩)] w fun e w' => e = .returned (.tuple #[]) ∧ BxC w' g1 (s.hand c1 c2) ∧ Upd g1 w w' := by
  obtain ⟨t, ht⟩ := hs
  have k2 := h2.cell s.off _ (val_at s c2)
  have f1 := h1.free s.off (off_lt s)
  have k1 := h1.cell s.off _ (val_at s c1)
  have HB := Lib.hid (h1.set s c2)
  rw [ht] at HB k2
  clear h1 h2 ht
  obtain ⟨hen, hcl⟩ := hf
  unfold Ent at hen
  go_enter Tryz.func128, Tryz.ntmps128
  go_wp2
  go_region_with ((with_reducible refine (hcl _ _).mono ?_); rintro e w1 ⟨rfl, rfl⟩)
  all_goals
    go_end0
    exact ⟨rfl, HB.out.heap rfl, ((Upd.refl _ _).setCell _).drew⟩
theorem putW (f : FuncId) (s : Sg) (hf : AtF f s) (a p : Nat) (fp : FuncId) (g : Nat) (c : Cm) (w : World) (ha : w.cell? ⟨a, 0, none⟩ = some (.func (.func f) #[] #[])) (hp : w.cell? ⟨p, 0, none⟩ = some (.func (.func fp) #[] #[]))
    (h : BxC w g c) (hs : ∃ t : Int, s.val c = .int .u32 t) (he : Ent fp) (hput : ∀ W, Calls Tryz.prog fp #[s.val c] W fun e w' => e = .returned (.string (str (s.enc c))) ∧ Below W.heap.size W w') :
    Calls Tryz.prog 130 #[.pointer (some ⟨g, 0, none⟩), .pointer (some ⟨p, 0, none⟩), .pointer (some ⟨a, 0, none⟩)] w fun e w' => e = .returned (.string (str (s.enc c))) ∧ Below w.heap.size w w' := by
  obtain ⟨t, ht⟩ := hs
  have k := h.cell s.off _ (val_at s c)
  rw [ht] at k hput
  clear h ht
  obtain ⟨hen, hcl⟩ := hf
  unfold Ent at hen he
  go_enter Tryz.func130, Tryz.ntmps130
  go_wp2
  go_region_with (first
    | ((with_reducible refine (hcl _ _).mono ?_); rintro e w1 ⟨rfl, rfl⟩)
    | ((with_reducible refine (hput _).mono ?_); rintro e w1 ⟨rfl, hb⟩))
  all_goals
    go_wp2
    go_ret
    exact ⟨rfl, ((Below.refl _ _).drew).trans hb⟩
theorem getW (f : FuncId) (s : Sg) (hf : AtF f s) (a q : Nat) (fg : FuncId) (cg : Array Value) (g b : Nat) (c d : Cm) (r : ByteArray) (e1 : Int) (w : World) (ha : w.cell? ⟨a, 0, none⟩ = some (.func (.func f) #[] #[])) (hq : w.cell? ⟨q, 0, none⟩ = some (.func (.func fg) #[] cg))
    (h : BxC w g c) (hgb : g ≠ b) (hs : ∃ t : Int, s.val d = .int .u32 t) (he : Ent fg) (hget : ∀ W, W.heap = w.heap → Calls Tryz.prog fg (#[.pointer (some ⟨b, 0, none⟩)] ++ cg) W fun e w' => e = .returned (s.val d) ∧ Rd w' b r e1 ∧ Upd b W w') :
    Calls Tryz.prog 131 #[.pointer (some ⟨g, 0, none⟩), .pointer (some ⟨b, 0, none⟩), .pointer (some ⟨q, 0, none⟩), .pointer (some ⟨a, 0, none⟩)] w fun e w' => e = .returned (.tuple #[]) ∧ BxC w' g (s.hand c d) ∧ Rd w' b r e1 ∧ OffL [g, b] w w' := by
  obtain ⟨t, ht⟩ := hs
  have H := Lib.hid h
  rw [ht] at hget
  have HT := Lib.hid ht
  clear h ht
  obtain ⟨hen, hcl⟩ := hf
  unfold Ent at hen he
  go_enter Tryz.func131, Tryz.ntmps131
  go_wp2
  go_region_with (first
    | ((with_reducible refine (hcl _ _).mono ?_); rintro e w1 ⟨rfl, rfl⟩)
    | ((with_reducible refine (hget _ ?_).mono ?_); (next => rfl); rintro e w1 ⟨rfl, hr, hu⟩; have H1 := Lib.hid ((H.out.heap (w' := w.drew) rfl).upd hu hgb); have k1 := H1.out.cell s.off _ (val_at s c); have f1 := H1.out.free s.off (off_lt s)))
  all_goals
    go_end0
    have hx := H1.out.set s d
    rw [HT.out] at hx
    first
      | exact ⟨rfl, hx.heap rfl, hr.upd ((Upd.refl g _).setCell _) (Ne.symm hgb), off_get hu ((Upd.refl g _).setCell _) rfl rfl rfl rfl⟩
      | exact ⟨rfl, hx.heap rfl, hr.upd (((Upd.refl g _).setCell _).drew) (Ne.symm hgb), off_get hu (((Upd.refl g _).setCell _).drew) rfl rfl rfl rfl⟩
end Go.Proofs.YtoekggbbkcmknaaGreatDoor
/- What the closures of a part of type uint64 do. -/
namespace Go.Proofs.YtoekggbbkcmknaaGreatDoor
open Go.RowKit
theorem handD (f : FuncId) (s : Sg) (hf : AtF f s) (a g1 g2 : Nat) (c1 c2 : Cm) (w : World) (ha : w.cell? ⟨a, 0, none⟩ = some (.func (.func f) #[] #[])) (h1 : BxC w g1 c1) (h2 : BxC w g2 c2) (hs : ∃ t : Int, s.val c2 = .int .u64 t) :
    Calls Tryz.prog 132 #[.pointer (some ⟨g1, 0, none⟩), .pointer (some ⟨g2, 0, none⟩), .pointer (some ⟨a, 0, none⟩)] w fun e w' => e = .returned (.tuple #[]) ∧ BxC w' g1 (s.hand c1 c2) ∧ Upd g1 w w' := by
  obtain ⟨t, ht⟩ := hs
  have k2 := h2.cell s.off _ (val_at s c2)
  have f1 := h1.free s.off (off_lt s)
  have k1 := h1.cell s.off _ (val_at s c1)
  have HB := Lib.hid (h1.set s c2)
  rw [ht] at HB k2
  clear h1 h2 ht
  obtain ⟨hen, hcl⟩ := hf
  unfold Ent at hen
  go_enter Tryz.func132, Tryz.ntmps132
  go_wp2
  go_region_with ((with_reducible refine (hcl _ _).mono ?_); rintro e w1 ⟨rfl, rfl⟩)
  all_goals
    go_end0
    exact ⟨rfl, HB.out.heap rfl, ((Upd.refl _ _).setCell _).drew⟩
theorem putD (f : FuncId) (s : Sg) (hf : AtF f s) (a p : Nat) (fp : FuncId) (g : Nat) (c : Cm) (w : World) (ha : w.cell? ⟨a, 0, none⟩ = some (.func (.func f) #[] #[])) (hp : w.cell? ⟨p, 0, none⟩ = some (.func (.func fp) #[] #[]))
    (h : BxC w g c) (hs : ∃ t : Int, s.val c = .int .u64 t) (he : Ent fp) (hput : ∀ W, Calls Tryz.prog fp #[s.val c] W fun e w' => e = .returned (.string (str (s.enc c))) ∧ Below W.heap.size W w') :
    Calls Tryz.prog 134 #[.pointer (some ⟨g, 0, none⟩), .pointer (some ⟨p, 0, none⟩), .pointer (some ⟨a, 0, none⟩)] w fun e w' => e = .returned (.string (str (s.enc c))) ∧ Below w.heap.size w w' := by
  obtain ⟨t, ht⟩ := hs
  have k := h.cell s.off _ (val_at s c)
  rw [ht] at k hput
  clear h ht
  obtain ⟨hen, hcl⟩ := hf
  unfold Ent at hen he
  go_enter Tryz.func134, Tryz.ntmps134
  go_wp2
  go_region_with (first
    | ((with_reducible refine (hcl _ _).mono ?_); rintro e w1 ⟨rfl, rfl⟩)
    | ((with_reducible refine (hput _).mono ?_); rintro e w1 ⟨rfl, hb⟩))
  all_goals
    go_wp2
    go_ret
    exact ⟨rfl, ((Below.refl _ _).drew).trans hb⟩
theorem getD (f : FuncId) (s : Sg) (hf : AtF f s) (a q : Nat) (fg : FuncId) (cg : Array Value) (g b : Nat) (c d : Cm) (r : ByteArray) (e1 : Int) (w : World) (ha : w.cell? ⟨a, 0, none⟩ = some (.func (.func f) #[] #[])) (hq : w.cell? ⟨q, 0, none⟩ = some (.func (.func fg) #[] cg))
    (h : BxC w g c) (hgb : g ≠ b) (hs : ∃ t : Int, s.val d = .int .u64 t) (he : Ent fg) (hget : ∀ W, W.heap = w.heap → Calls Tryz.prog fg (#[.pointer (some ⟨b, 0, none⟩)] ++ cg) W fun e w' => e = .returned (s.val d) ∧ Rd w' b r e1 ∧ Upd b W w') :
    Calls Tryz.prog 135 #[.pointer (some ⟨g, 0, none⟩), .pointer (some ⟨b, 0, none⟩), .pointer (some ⟨q, 0, none⟩), .pointer (some ⟨a, 0, none⟩)] w fun e w' => e = .returned (.tuple #[]) ∧ BxC w' g (s.hand c d) ∧ Rd w' b r e1 ∧ OffL [g, b] w w' := by
  obtain ⟨t, ht⟩ := hs
  have H := Lib.hid h
  rw [ht] at hget
  have HT := Lib.hid ht
  clear h ht
  obtain ⟨hen, hcl⟩ := hf
  unfold Ent at hen he
  go_enter Tryz.func135, Tryz.ntmps135
  go_wp2
  go_region_with (first
    | ((with_reducible refine (hcl _ _).mono ?_); rintro e w1 ⟨rfl, rfl⟩)
    | ((with_reducible refine (hget _ ?_).mono ?_); (next => rfl); rintro e w1 ⟨rfl, hr, hu⟩; have H1 := Lib.hid ((H.out.heap (w' := w.drew) rfl).upd hu hgb); have k1 := H1.out.cell s.off _ (val_at s c); have f1 := H1.out.free s.off (off_lt s)))
  all_goals
    go_end0
    have hx := H1.out.set s d
    rw [HT.out] at hx
    first
      | exact ⟨rfl, hx.heap rfl, hr.upd ((Upd.refl g _).setCell _) (Ne.symm hgb), off_get hu ((Upd.refl g _).setCell _) rfl rfl rfl rfl⟩
      | exact ⟨rfl, hx.heap rfl, hr.upd (((Upd.refl g _).setCell _).drew) (Ne.symm hgb), off_get hu (((Upd.refl g _).setCell _).drew) rfl rfl rfl rfl⟩
end Go.Proofs.YtoekggbbkcmknaaGreatDoor
/- A part as it lies in memory; what makes it. -/
namespace Go.Proofs.YtoekggbbkcmknaaGreatDoor
open Go.RowKit
theorem store_fn {P : Program} {w : World} {a : Addr} {m : Mode} (f : Fn) (x y : Array Value) : (store a (.func f x y) m).run P w = stored P w a (.func f x y) m := run_store P w a _ m rfl
theorem store_nil {P : Program} {w : World} {a : Addr} {m : Mode} : (store a .nilFunc m).run P w = stored P w a .nilFunc m := run_store P w a _ m rfl
attribute [local go_sem] store_fn store_nil
theorem sizedS_any (f fp fg : FuncId) (cg : Array Value) (w : World) :
    Calls Tryz.prog 104 #[.func (.func f) #[] #[], .func (.func fp) #[] #[], .func (.func fg) #[] cg] w fun e w' =>
      e = .returned (.agg #[.func (.func 124) #[] #[.pointer (some ⟨w.heap.size, 0, none⟩)], .func (.func 125) #[] #[], .func (.func 126) #[] #[.pointer (some ⟨w.heap.size + 1, 0, none⟩), .pointer (some ⟨w.heap.size, 0, none⟩)], .func (.func 127) #[] #[.pointer (some ⟨w.heap.size + 1 + 1, 0, none⟩), .pointer (some ⟨w.heap.size, 0, none⟩)]]) ∧
      w'.cell? ⟨w.heap.size, 0, none⟩ = some (.func (.func f) #[] #[]) ∧ w'.cell? ⟨w.heap.size + 1, 0, none⟩ = some (.func (.func fp) #[] #[]) ∧ w'.cell? ⟨w.heap.size + 1 + 1, 0, none⟩ = some (.func (.func fg) #[] cg) ∧ Below w.heap.size w w' := by
  go_enter Tryz.func104, Tryz.ntmps104
  go_wp2
  refine bodyPost_ret_by (v := .agg #[.func (.func 124) #[] #[.pointer (some ⟨w.heap.size, 0, none⟩)], .func (.func 125) #[] #[], .func (.func 126) #[] #[.pointer (some ⟨w.heap.size + 1, 0, none⟩), .pointer (some ⟨w.heap.size, 0, none⟩)], .func (.func 127) #[] #[.pointer (some ⟨w.heap.size + 1 + 1, 0, none⟩), .pointer (some ⟨w.heap.size, 0, none⟩)]]) ?_ rfl
    ⟨rfl, by simp [go_sem], by simp [go_sem], by simp [go_sem], ((((Below.refl _ _).alloc (Nat.le_refl _) _).alloc (by simp) _).alloc (by simp; omega) _).alloc (by simp; omega) _⟩
  simp [results, Tryz.results104, go_sem]
theorem sizedI_any (f fp fg : FuncId) (cg : Array Value) (w : World) :
    Calls Tryz.prog 75 #[.func (.func f) #[] #[], .func (.func fp) #[] #[], .func (.func fg) #[] cg] w fun e w' =>
      e = .returned (.agg #[.func (.func 113) #[] #[.pointer (some ⟨w.heap.size, 0, none⟩)], .func (.func 114) #[] #[], .func (.func 115) #[] #[.pointer (some ⟨w.heap.size + 1, 0, none⟩), .pointer (some ⟨w.heap.size, 0, none⟩)], .func (.func 116) #[] #[.pointer (some ⟨w.heap.size + 1 + 1, 0, none⟩), .pointer (some ⟨w.heap.size, 0, none⟩)]]) ∧
      w'.cell? ⟨w.heap.size, 0, none⟩ = some (.func (.func f) #[] #[]) ∧ w'.cell? ⟨w.heap.size + 1, 0, none⟩ = some (.func (.func fp) #[] #[]) ∧ w'.cell? ⟨w.heap.size + 1 + 1, 0, none⟩ = some (.func (.func fg) #[] cg) ∧ Below w.heap.size w w' := by
  go_enter Tryz.func75, Tryz.ntmps75
  go_wp2
  refine bodyPost_ret_by (v := .agg #[.func (.func 113) #[] #[.pointer (some ⟨w.heap.size, 0, none⟩)], .func (.func 114) #[] #[], .func (.func 115) #[] #[.pointer (some ⟨w.heap.size + 1, 0, none⟩), .pointer (some ⟨w.heap.size, 0, none⟩)], .func (.func 116) #[] #[.pointer (some ⟨w.heap.size + 1 + 1, 0, none⟩), .pointer (some ⟨w.heap.size, 0, none⟩)]]) ?_ rfl
    ⟨rfl, by simp [go_sem], by simp [go_sem], by simp [go_sem], ((((Below.refl _ _).alloc (Nat.le_refl _) _).alloc (by simp) _).alloc (by simp; omega) _).alloc (by simp; omega) _⟩
  simp [results, Tryz.results75, go_sem]
theorem sizedB_any (f fp fg : FuncId) (cg : Array Value) (w : World) :
    Calls Tryz.prog 88 #[.func (.func f) #[] #[], .func (.func fp) #[] #[], .func (.func fg) #[] cg] w fun e w' =>
      e = .returned (.agg #[.func (.func 117) #[] #[.pointer (some ⟨w.heap.size, 0, none⟩)], .func (.func 118) #[] #[], .func (.func 119) #[] #[.pointer (some ⟨w.heap.size + 1, 0, none⟩), .pointer (some ⟨w.heap.size, 0, none⟩)], .func (.func 120) #[] #[.pointer (some ⟨w.heap.size + 1 + 1, 0, none⟩), .pointer (some ⟨w.heap.size, 0, none⟩)]]) ∧
      w'.cell? ⟨w.heap.size, 0, none⟩ = some (.func (.func f) #[] #[]) ∧ w'.cell? ⟨w.heap.size + 1, 0, none⟩ = some (.func (.func fp) #[] #[]) ∧ w'.cell? ⟨w.heap.size + 1 + 1, 0, none⟩ = some (.func (.func fg) #[] cg) ∧ Below w.heap.size w w' := by
  go_enter Tryz.func88, Tryz.ntmps88
  go_wp2
  refine bodyPost_ret_by (v := .agg #[.func (.func 117) #[] #[.pointer (some ⟨w.heap.size, 0, none⟩)], .func (.func 118) #[] #[], .func (.func 119) #[] #[.pointer (some ⟨w.heap.size + 1, 0, none⟩), .pointer (some ⟨w.heap.size, 0, none⟩)], .func (.func 120) #[] #[.pointer (some ⟨w.heap.size + 1 + 1, 0, none⟩), .pointer (some ⟨w.heap.size, 0, none⟩)]]) ?_ rfl
    ⟨rfl, by simp [go_sem], by simp [go_sem], by simp [go_sem], ((((Below.refl _ _).alloc (Nat.le_refl _) _).alloc (by simp) _).alloc (by simp; omega) _).alloc (by simp; omega) _⟩
  simp [results, Tryz.results88, go_sem]
theorem sizedW_any (f fp fg : FuncId) (cg : Array Value) (w : World) :
    Calls Tryz.prog 109 #[.func (.func f) #[] #[], .func (.func fp) #[] #[], .func (.func fg) #[] cg] w fun e w' =>
      e = .returned (.agg #[.func (.func 128) #[] #[.pointer (some ⟨w.heap.size, 0, none⟩)], .func (.func 129) #[] #[], .func (.func 130) #[] #[.pointer (some ⟨w.heap.size + 1, 0, none⟩), .pointer (some ⟨w.heap.size, 0, none⟩)], .func (.func 131) #[] #[.pointer (some ⟨w.heap.size + 1 + 1, 0, none⟩), .pointer (some ⟨w.heap.size, 0, none⟩)]]) ∧
      w'.cell? ⟨w.heap.size, 0, none⟩ = some (.func (.func f) #[] #[]) ∧ w'.cell? ⟨w.heap.size + 1, 0, none⟩ = some (.func (.func fp) #[] #[]) ∧ w'.cell? ⟨w.heap.size + 1 + 1, 0, none⟩ = some (.func (.func fg) #[] cg) ∧ Below w.heap.size w w' := by
  go_enter Tryz.func109, Tryz.ntmps109
  go_wp2
  refine bodyPost_ret_by (v := .agg #[.func (.func 128) #[] #[.pointer (some ⟨w.heap.size, 0, none⟩)], .func (.func 129) #[] #[], .func (.func 130) #[] #[.pointer (some ⟨w.heap.size + 1, 0, none⟩), .pointer (some ⟨w.heap.size, 0, none⟩)], .func (.func 131) #[] #[.pointer (some ⟨w.heap.size + 1 + 1, 0, none⟩), .pointer (some ⟨w.heap.size, 0, none⟩)]]) ?_ rfl
    ⟨rfl, by simp [go_sem], by simp [go_sem], by simp [go_sem], ((((Below.refl _ _).alloc (Nat.le_refl _) _).alloc (by simp) _).alloc (by simp; omega) _).alloc (by simp; omega) _⟩
  simp [results, Tryz.results109, go_sem]
theorem sizedD_any (f fp fg : FuncId) (cg : Array Value) (w : World) :
    Calls Tryz.prog 110 #[.func (.func f) #[] #[], .func (.func fp) #[] #[], .func (.func fg) #[] cg] w fun e w' =>
      e = .returned (.agg #[.func (.func 132) #[] #[.pointer (some ⟨w.heap.size, 0, none⟩)], .func (.func 133) #[] #[], .func (.func 134) #[] #[.pointer (some ⟨w.heap.size + 1, 0, none⟩), .pointer (some ⟨w.heap.size, 0, none⟩)], .func (.func 135) #[] #[.pointer (some ⟨w.heap.size + 1 + 1, 0, none⟩), .pointer (some ⟨w.heap.size, 0, none⟩)]]) ∧
      w'.cell? ⟨w.heap.size, 0, none⟩ = some (.func (.func f) #[] #[]) ∧ w'.cell? ⟨w.heap.size + 1, 0, none⟩ = some (.func (.func fp) #[] #[]) ∧ w'.cell? ⟨w.heap.size + 1 + 1, 0, none⟩ = some (.func (.func fg) #[] cg) ∧ Below w.heap.size w w' := by
  go_enter Tryz.func110, Tryz.ntmps110
  go_wp2
  refine bodyPost_ret_by (v := .agg #[.func (.func 132) #[] #[.pointer (some ⟨w.heap.size, 0, none⟩)], .func (.func 133) #[] #[], .func (.func 134) #[] #[.pointer (some ⟨w.heap.size + 1, 0, none⟩), .pointer (some ⟨w.heap.size, 0, none⟩)], .func (.func 135) #[] #[.pointer (some ⟨w.heap.size + 1 + 1, 0, none⟩), .pointer (some ⟨w.heap.size, 0, none⟩)]]) ?_ rfl
    ⟨rfl, by simp [go_sem], by simp [go_sem], by simp [go_sem], ((((Below.refl _ _).alloc (Nat.le_refl _) _).alloc (by simp) _).alloc (by simp; omega) _).alloc (by simp; omega) _⟩
  simp [results, Tryz.results110, go_sem]
theorem text_any (f : FuncId) (m : Int) (w : World) :
    Calls Tryz.prog 66 #[.int .i64 m, .func (.func f) #[] #[]] w fun e w' => ∃ a p q : Nat, (w.heap.size ≤ a ∧ w.heap.size ≤ p ∧ w.heap.size ≤ q) ∧
      e = .returned (.agg #[.func (.func 124) #[] #[.pointer (some ⟨a, 0, none⟩)], .func (.func 108) #[] #[.pointer (some ⟨w.heap.size + 1, 0, none⟩), .pointer (some ⟨w.heap.size, 0, none⟩)], .func (.func 126) #[] #[.pointer (some ⟨p, 0, none⟩), .pointer (some ⟨a, 0, none⟩)], .func (.func 127) #[] #[.pointer (some ⟨q, 0, none⟩), .pointer (some ⟨a, 0, none⟩)]]) ∧
      w'.cell? ⟨w.heap.size, 0, none⟩ = some (.int .i64 m) ∧ w'.cell? ⟨w.heap.size + 1, 0, none⟩ = some (.func (.func f) #[] #[]) ∧
      w'.cell? ⟨a, 0, none⟩ = some (.func (.func f) #[] #[]) ∧ w'.cell? ⟨p, 0, none⟩ = some (.func (.func 105) #[] #[]) ∧ w'.cell? ⟨q, 0, none⟩ = some (.func (.func 106) #[] #[.pointer (some ⟨w.heap.size, 0, none⟩)]) ∧ Below w.heap.size w w' := by
  go_enter Tryz.func66, Tryz.ntmps66
  go_wp2_with (go_at_call 104; refine (sizedS_any _ _ _ _ _).mono ?_; rintro e w1 ⟨rfl, k1, k2, k3, hb⟩; have HB := Lib.hid (fun o => ((BxV.new ((w.alloc (.cells #[.int .i64 m] 3)).alloc (.cells #[.func (.func f) #[] #[]] 123)) #[.nilFunc, .nilFunc, .nilFunc, .nilFunc] 105).below' hb (by simp)).alloc (o := o) (Nat.lt_of_lt_of_le (by simp) hb.size)); have c0 := fun o => (HB.out o).at0 0 _ rfl; have c1 := fun o => (HB.out o).at0 1 _ rfl; have c2 := fun o => (HB.out o).at0 2 _ rfl; have c3 := fun o => (HB.out o).at0 3 _ rfl; simp only [World.size_alloc] at c0 c1 c2 c3)
  have h9 := fun o => (HB.out o).set (vs := [.func (.func 124) #[] #[.pointer (some ⟨w.heap.size + 1 + 1 + 1, 0, none⟩)], .func (.func 108) #[] #[.pointer (some ⟨w.heap.size + 1, 0, none⟩), .pointer (some ⟨w.heap.size, 0, none⟩)], .func (.func 126) #[] #[.pointer (some ⟨w.heap.size + 1 + 1 + 1 + 1, 0, none⟩), .pointer (some ⟨w.heap.size + 1 + 1 + 1, 0, none⟩)], .func (.func 127) #[] #[.pointer (some ⟨w.heap.size + 1 + 1 + 1 + 1 + 1, 0, none⟩), .pointer (some ⟨w.heap.size + 1 + 1 + 1, 0, none⟩)]]) rfl
  simp only [setFrom, Nat.zero_add, Nat.reduceAdd, World.size_alloc] at h9
  have z0 := fun o => ((h9 o).at0 0 _ rfl).1
  have z1 := fun o => ((h9 o).at0 1 _ rfl).1
  have z2 := fun o => ((h9 o).at0 2 _ rfl).1
  have z3 := fun o => ((h9 o).at0 3 _ rfl).1
  simp only [World.size_alloc] at k1 k2 k3 hb
  clear h9 c0 c1 c2 c3 HB
  have up : ∀ (o : Obj) (k : Nat) (v : Value), k ≠ w.heap.size + 1 + 1 → w1.cell? ⟨k, 0, none⟩ = some v → (setFrom (w1.alloc o) (w.heap.size + 1 + 1) 0 [.func (.func 124) #[] #[.pointer (some ⟨w.heap.size + 1 + 1 + 1, 0, none⟩)], .func (.func 108) #[] #[.pointer (some ⟨w.heap.size + 1, 0, none⟩), .pointer (some ⟨w.heap.size, 0, none⟩)], .func (.func 126) #[] #[.pointer (some ⟨w.heap.size + 1 + 1 + 1 + 1, 0, none⟩), .pointer (some ⟨w.heap.size + 1 + 1 + 1, 0, none⟩)], .func (.func 127) #[] #[.pointer (some ⟨w.heap.size + 1 + 1 + 1 + 1 + 1, 0, none⟩), .pointer (some ⟨w.heap.size + 1 + 1 + 1, 0, none⟩)]]).cell? ⟨k, 0, none⟩ = some v := fun o k v hk hc => by
    have hu := setFrom_upd (w.heap.size + 1 + 1) [.func (.func 124) #[] #[.pointer (some ⟨w.heap.size + 1 + 1 + 1, 0, none⟩)], .func (.func 108) #[] #[.pointer (some ⟨w.heap.size + 1, 0, none⟩), .pointer (some ⟨w.heap.size, 0, none⟩)], .func (.func 126) #[] #[.pointer (some ⟨w.heap.size + 1 + 1 + 1 + 1, 0, none⟩), .pointer (some ⟨w.heap.size + 1 + 1 + 1, 0, none⟩)], .func (.func 127) #[] #[.pointer (some ⟨w.heap.size + 1 + 1 + 1 + 1 + 1, 0, none⟩), .pointer (some ⟨w.heap.size + 1 + 1 + 1, 0, none⟩)]] (w1.alloc o) 0
    rw [World.cell?_of_block (w := w1.alloc o) (hu.block k hk)]
    exact ((Below.refl _ _).alloc (Nat.le_refl _) o).cell (p := ⟨k, 0, none⟩) (World.block_lt_of_cell? _ _ hc) |>.trans hc
  have q0 : w1.cell? ⟨w.heap.size, 0, none⟩ = some (.int .i64 m) := by
    rw [hb.cell (p := ⟨w.heap.size, 0, none⟩) (by show w.heap.size < _; omega)]; simp [go_sem]
  have q1 : w1.cell? ⟨w.heap.size + 1, 0, none⟩ = some (.func (.func f) #[] #[]) := by
    rw [hb.cell (p := ⟨w.heap.size + 1, 0, none⟩) (by show w.heap.size + 1 < _; omega)]; simp [go_sem]
  refine bodyPost_ret_by (v := .agg #[.func (.func 124) #[] #[.pointer (some ⟨w.heap.size + 1 + 1 + 1, 0, none⟩)], .func (.func 108) #[] #[.pointer (some ⟨w.heap.size + 1, 0, none⟩), .pointer (some ⟨w.heap.size, 0, none⟩)], .func (.func 126) #[] #[.pointer (some ⟨w.heap.size + 1 + 1 + 1 + 1, 0, none⟩), .pointer (some ⟨w.heap.size + 1 + 1 + 1, 0, none⟩)], .func (.func 127) #[] #[.pointer (some ⟨w.heap.size + 1 + 1 + 1 + 1 + 1, 0, none⟩), .pointer (some ⟨w.heap.size + 1 + 1 + 1, 0, none⟩)]]) (by simp [results, Tryz.results66, go_sem, z0, z1, z2, z3]) rfl ⟨w.heap.size + 1 + 1 + 1, w.heap.size + 1 + 1 + 1 + 1, w.heap.size + 1 + 1 + 1 + 1 + 1, ⟨by omega, by omega, by omega⟩, rfl, up _ _ _ (by omega) q0, up _ _ _ (by omega) q1, up _ _ _ (by omega) k1, up _ _ _ (by omega) k2, up _ _ _ (by omega) k3, ?_⟩
  refine Below.trans ?_ (setFrom_below (g := w.heap.size + 1 + 1) (by omega) [.func (.func 124) #[] #[.pointer (some ⟨w.heap.size + 1 + 1 + 1, 0, none⟩)], .func (.func 108) #[] #[.pointer (some ⟨w.heap.size + 1, 0, none⟩), .pointer (some ⟨w.heap.size, 0, none⟩)], .func (.func 126) #[] #[.pointer (some ⟨w.heap.size + 1 + 1 + 1 + 1, 0, none⟩), .pointer (some ⟨w.heap.size + 1 + 1 + 1, 0, none⟩)], .func (.func 127) #[] #[.pointer (some ⟨w.heap.size + 1 + 1 + 1 + 1 + 1, 0, none⟩), .pointer (some ⟨w.heap.size + 1 + 1 + 1, 0, none⟩)]] _ 0)
  exact ((((((Below.refl w.heap.size w).alloc (Nat.le_refl _) _).alloc (by simp) _).alloc (by simp; omega) _).trans (hb.mono (by omega))).alloc (by have := hb.size; simp at this; omega) _)
end Go.Proofs.YtoekggbbkcmknaaGreatDoor
