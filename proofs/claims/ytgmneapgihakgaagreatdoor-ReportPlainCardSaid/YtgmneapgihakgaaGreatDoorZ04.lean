/- Texts of one seat, merged. -/
import Derived.Test.YtgmneapgihakgaaGreatDoorZ03
import Derived.OwnWalk
import Derived.Laws.OwnMore
import Derived.Laws.EntriesVeiled
import Derived.BigQuiet
import Derived.Deep.QuietTactic
import Derived.Deep.RegionHeld3
import Derived.Test.YtgmneapgihakgaaGreatDoorZ02
set_option maxRecDepth 100000
set_option maxHeartbeats 4000000
set_option linter.unusedVariables false
/- What stays as it was while one block is turned. -/
namespace Go.Proofs.YtgmneapgihakgaaGreatDoor
open Go.RowKit
/-- Of what was there nothing has turned but block b. -/
structure Mod (b : Nat) (w w' : World) : Prop where
  os : w'.os = w.os
  tape : w'.tape = w.tape
  output : w'.output = w.output
  size : w.heap.size ≤ w'.heap.size
  block : ∀ k, k < w.heap.size → k ≠ b → w'.heap[k]? = w.heap[k]?
theorem Mod.refl (b : Nat) (w : World) : Mod b w w := ⟨rfl, rfl, rfl, Nat.le_refl _, fun _ _ _ => rfl⟩
theorem Mod.trans {b : Nat} {u v w : World} (h : Mod b u v) (k : Mod b v w) : Mod b u w :=
  ⟨k.os.trans h.os, k.tape.trans h.tape, k.output.trans h.output, Nat.le_trans h.size k.size, fun i hi hne => (k.block i (Nat.lt_of_lt_of_le hi h.size) hne).trans (h.block i hi hne)⟩
theorem Mod.upd {b : Nat} {u v w : World} (h : Mod b u v) (k : Upd b v w) : Mod b u w :=
  h.trans ⟨k.os, k.tape, k.output, Nat.le_of_eq k.size.symm, fun i _ hne => k.block i hne⟩
theorem Mod.step {b : Nat} {u v w : World} (h : Mod b u v) (k : Below v.heap.size v w) : Mod b u w :=
  h.trans ⟨k.os, k.tape, k.output, k.size, fun i hi _ => k.block i hi⟩
theorem Mod.alloc {b : Nat} {u v : World} (h : Mod b u v) (o : Obj) : Mod b u (v.alloc o) := h.step ((Below.refl _ _).alloc (Nat.le_refl _) _)
theorem Mod.below {b B : Nat} {w w' : World} (h : Mod b w w') (hb : B ≤ b) (hB : B ≤ w.heap.size) : Below B w w' :=
  ⟨h.os, h.tape, h.output, h.size, fun k hk => h.block k (by omega) (by omega)⟩
theorem Mod.cell {b : Nat} {w w' : World} (h : Mod b w w') {p : Addr} (hp : p.block < w.heap.size) (hne : p.block ≠ b) : w'.cell? p = w.cell? p := World.cell?_of_block (w := w) (h.block p.block hp hne)
theorem Mod.frozen {b : Nat} {w w' : World} (h : Mod b w w') {p : Addr} (hp : p.block < w.heap.size) (hne : p.block ≠ b) : w'.frozen? p = w.frozen? p := World.frozen?_of_block (w := w) (h.block p.block hp hne)
theorem Mod.step' {b : Nat} {u v w : World} (h : Mod b u v) (k : Below u.heap.size v w) : Mod b u w :=
  ⟨k.os.trans h.os, k.tape.trans h.tape, k.output.trans h.output, Nat.le_trans h.size k.size, fun i hi hne => (k.block i hi).trans (h.block i hi hne)⟩
theorem Rd.below' {w w' : World} {b B : Nat} {s : ByteArray} {e : Int} (h : Rd w b s e) (hb : Below B w w') (hlt : b < B) : Rd w' b s e := by
  have hB := hb.block b hlt
  exact ⟨(World.cell?_of_block (w := w) hB).trans h.c0, (World.cell?_of_block (w := w) hB).trans h.c1, (World.frozen?_of_block (w := w) hB).trans h.f0, (World.frozen?_of_block (w := w) hB).trans h.f1⟩
theorem own_upd {w w' : World} {b B : Nat} {e : TypeId} {s : Nat} {v : Value} {n : Nat} {xs : List Value} (h : w.ownsRow B e s v n xs) (u : Upd b w w') (hb : b < B) : w'.ownsRow B e s v n xs := by
  obtain ⟨h0, h1⟩ := h
  refine ⟨h0, ?_⟩
  rcases h1 with h1 | ⟨g, cap, cur, hv, hg, hh, rest⟩
  · exact .inl h1
  · exact .inr ⟨g, cap, cur, hv, hg, by rw [u.block g (by omega), hh], rest⟩
theorem own_mod {w w' : World} {b B : Nat} {e : TypeId} {s : Nat} {v : Value} {n : Nat} {xs : List Value} (h : w.ownsRow B e s v n xs) (m : Mod b w w') (hb : b < B) : w'.ownsRow B e s v n xs := by
  obtain ⟨h0, h1⟩ := h
  refine ⟨h0, ?_⟩
  rcases h1 with h1 | ⟨g, cap, cur, hv, hg, hh, rest⟩
  · exact .inl h1
  · have hlt : g < w.heap.size := by
      rcases Nat.lt_or_ge g w.heap.size with h' | h'
      · exact h'
      · rw [Array.getElem?_eq_none h'] at hh; cases hh
    exact .inr ⟨g, cap, cur, hv, hg, by rw [m.block g hlt (by omega), hh], rest⟩
theorem own_below {w w' : World} {B B' : Nat} {e : TypeId} {s : Nat} {v : Value} {n : Nat} {xs : List Value} (h : w.ownsRow B e s v n xs) (hb : Below B' w w') (hB : w.heap.size ≤ B') : w'.ownsRow B e s v n xs := by
  obtain ⟨h0, h1⟩ := h
  refine ⟨h0, ?_⟩
  rcases h1 with h1 | ⟨g, cap, cur, hv, hg, hh, rest⟩
  · exact .inl h1
  · have hlt : g < w.heap.size := by
      rcases Nat.lt_or_ge g w.heap.size with h' | h'
      · exact h'
      · rw [Array.getElem?_eq_none h'] at hh; cases hh
    exact .inr ⟨g, cap, cur, hv, hg, by rw [hb.block g (by omega), hh], rest⟩
theorem Mod.old {b : Nat} {w w' : World} {o : Obj} (h : Mod b (w.alloc o) w') : Mod b w w' := ((Mod.refl b w).alloc o).trans h
theorem Rd.lt {w : World} {b : Nat} {s : ByteArray} {e : Int} (h : Rd w b s e) : b < w.heap.size := World.block_lt_of_cell? _ _ h.c0
end Go.Proofs.YtgmneapgihakgaaGreatDoor
/- The contracts of what lays one cell: first, putKey, putCell, and a shape's own functions. -/
namespace Go.Proofs.YtgmneapgihakgaaGreatDoor
open Go.RowKit
open Sl (Cl Kd)
theorem below_off {w w1 : World} {o : Obj} (h : Below (w.alloc o).drew.heap.size (w.alloc o).drew w1) : Below w.heap.size w w1 :=
  (((Below.refl _ _).alloc (Nat.le_refl _) o).drew).trans (h.mono (by show w.heap.size ≤ (w.alloc o).heap.size; simp))
def aggC (c : Cl) : Value := .agg #[.string (str c.key), .string (str c.val), .int .u32 c.chain, .int .u32 c.long]
def aggK (k : Kd) : Value := .agg #[.string (str k.key), .int .u32 k.page]
theorem str_take (l : List UInt8) (n : Nat) : (str l).extract 0 (min l.length n) = str (l.take n) := by
  apply ByteArray.ext
  simp [str, ByteArray.data_extract, List.extract_toArray]
  rw [Nat.min_comm]
theorem ext_full (s : ByteArray) : s.extract 0 s.size = s := by
  apply ByteArray.ext
  simp
theorem str_whole (l : List UInt8) : (str l).extract 0 l.length = str l := by
  have := str_take l l.length
  rw [Nat.min_self, List.take_length] at this
  exact this
theorem wrap16_le (x : Nat) (h : x < 65536) : IntKind.u16.wrap (x : Int) = x := by rw [IntKind.wrap_u16]; omega
/-- The fields of a boxed branch's cell, and that nothing else of old has turned. -/
def InK (w : World) (g : Nat) (x0 x1 : Value) (w' : World) : Prop :=
  w'.cell? ⟨g, 0, none⟩ = some x0 ∧ w'.cell? ⟨g, 1, none⟩ = some x1 ∧ Below g w w'
theorem InK.step {w w1 w2 : World} {g : Nat} {x0 x1 : Value} (h : w1.cell? ⟨g, 0, none⟩ = some x0 ∧ w1.cell? ⟨g, 1, none⟩ = some x1 ∧ Below g w w1) (hb : Below w1.heap.size w1 w2) :
    w2.cell? ⟨g, 0, none⟩ = some x0 ∧ w2.cell? ⟨g, 1, none⟩ = some x1 ∧ Below g w w2 := by
  obtain ⟨h0, h1, h2⟩ := h
  have hlt := World.block_lt_of_cell? _ _ h0
  exact ⟨(hb.cell (p := ⟨g, 0, none⟩) hlt).trans h0, (hb.cell (p := ⟨g, 1, none⟩) hlt).trans h1, h2.trans (hb.mono (Nat.le_of_lt hlt))⟩
theorem InK.first (w : World) (x0 x1 : Value) (T : TypeId) :
    (w.alloc (.cells #[x0, x1] T)).drew.cell? ⟨w.heap.size, 0, none⟩ = some x0 ∧ (w.alloc (.cells #[x0, x1] T)).drew.cell? ⟨w.heap.size, 1, none⟩ = some x1 ∧ Below w.heap.size w (w.alloc (.cells #[x0, x1] T)).drew :=
  ⟨by simp, by simp, ((Below.refl _ _).alloc (Nat.le_refl _) _).drew⟩
theorem InC.step {w w1 w2 : World} {g : Nat} {x0 x1 x2 x3 : Value} (h : w1.cell? ⟨g, 0, none⟩ = some x0 ∧ w1.cell? ⟨g, 1, none⟩ = some x1 ∧ w1.cell? ⟨g, 2, none⟩ = some x2 ∧ w1.cell? ⟨g, 3, none⟩ = some x3 ∧ Below g w w1) (hb : Below w1.heap.size w1 w2) :
    w2.cell? ⟨g, 0, none⟩ = some x0 ∧ w2.cell? ⟨g, 1, none⟩ = some x1 ∧ w2.cell? ⟨g, 2, none⟩ = some x2 ∧ w2.cell? ⟨g, 3, none⟩ = some x3 ∧ Below g w w2 := by
  obtain ⟨h0, h1, h2, h3, h4⟩ := h
  have hlt := World.block_lt_of_cell? _ _ h0
  exact ⟨(hb.cell (p := ⟨g, 0, none⟩) hlt).trans h0, (hb.cell (p := ⟨g, 1, none⟩) hlt).trans h1, (hb.cell (p := ⟨g, 2, none⟩) hlt).trans h2, (hb.cell (p := ⟨g, 3, none⟩) hlt).trans h3, h4.trans (hb.mono (Nat.le_of_lt hlt))⟩
theorem InC.first (w : World) (x0 x1 x2 x3 : Value) (T : TypeId) :
    (w.alloc (.cells #[x0, x1, x2, x3] T)).drew.cell? ⟨w.heap.size, 0, none⟩ = some x0 ∧ (w.alloc (.cells #[x0, x1, x2, x3] T)).drew.cell? ⟨w.heap.size, 1, none⟩ = some x1 ∧ (w.alloc (.cells #[x0, x1, x2, x3] T)).drew.cell? ⟨w.heap.size, 2, none⟩ = some x2 ∧ (w.alloc (.cells #[x0, x1, x2, x3] T)).drew.cell? ⟨w.heap.size, 3, none⟩ = some x3 ∧ Below w.heap.size w (w.alloc (.cells #[x0, x1, x2, x3] T)).drew :=
  ⟨by simp, by simp, by simp, by simp, ((Below.refl _ _).alloc (Nat.le_refl _) _).drew⟩
end Go.Proofs.YtgmneapgihakgaaGreatDoor
/- Two builders side by side: WriteString on one leaves the other as it was; String with all that it turns. -/
namespace Go.Proofs.YtgmneapgihakgaaGreatDoor
open Go.RowKit
theorem run_str_at {P : Program} (w : World) (base : Nat) (t u ty e : TypeId) (i : TypeInfo) (ht : P.underlying t = some (.slice e)) (hu : P.underlying u = some .string) (hi : P.info? e = some i) (hz : i.zero = some (.int .u8 0))
    (hsize : i.size = 1) (hby : i.bytes = 1) (v : Value) (n : Nat) (xs : List Value) (hown : w.ownsRow base e 1 v n xs) (s : ByteArray)
    (h63 : n + s.size ≤ maxLen) (hbytes : n + s.size ≤ 140737488355328) (hbase : base ≤ w.heap.size) :
    ∃ v' w', (Builtin.append_ #[t, u] ty #[v, .string s]).run P w = .ok v' w' ∧ w'.ownsRow base e 1 v' (n + s.size) (xs ++ Lib.strCells s) ∧ w.grownBy w' v.ownBlock ∧
      (v'.ownBlock = v.ownBlock ∨ ∃ g, v'.ownBlock = some g ∧ w.heap.size ≤ g) := by
  obtain ⟨v', w', hr, ho, hg, _⟩ := Lib.run_append_own_string (P := P) w base t u ty e i ht hu hi hz hsize hby v n xs hown s h63 hbytes hbase
  refine ⟨v', w', hr, ho, hg, ?_⟩
  have hlen : xs.length = n := by simpa using hown.1
  rcases hown.2 with ⟨rfl, rfl⟩ | ⟨g, cap, cur, rfl, hbg, hgd, hnc, hcm, hcs, htake⟩
  · obtain rfl : xs = [] := List.eq_nil_of_length_eq_zero hlen
    obtain ⟨v2, w2, hr2, ho2, _, _⟩ := Lib.run_append_own_string (P := P) w w.heap.size t u ty e i ht hu hi hz hsize hby _ 0 [] (World.ownsRow_nil w w.heap.size e 1) s h63 hbytes (Nat.le_refl _)
    rw [hr] at hr2
    cases hr2
    rcases ho2.2 with ⟨rfl, _⟩ | ⟨g, cap, cur, rfl, hbg, _⟩
    · exact .inl rfl
    · exact .inr ⟨g, rfl, hbg⟩
  · by_cases hroom : n + s.size ≤ cap
    · have hr2 := Lib.run_append_room_string (P := P) w t u ty e i ht hu hi hsize g n cap cur hgd s hroom (by rw [hcs]; omega)
      rw [hr] at hr2
      cases hr2
      exact .inl rfl
    · have hr2 := Lib.run_append_grow_string (P := P) w t u ty e i (.int .u8 0) ht hu hi hz ⟨g, 0, none⟩ n cap xs (by rw [hsize]; omega) (hown.cells (g := g) rfl) s (by omega) (by unfold maxLen at h63; omega) (by rw [hby]; exact growslice_fits (by omega) (by omega))
      rw [hr] at hr2
      cases hr2
      exact .inr ⟨_, rfl, Nat.le_refl _⟩
theorem wpList_str_at {P : Program} {w : World} {ops : Array Oper} {rest : List Oper} {o : Oper} {a : Act} {Q : Exit → Act → World → Prop} (hgd : o.guard = none) (sl x : Operand) (t u : TypeId)
    (ho : o.op = .call { callee := .builtin .append, args := #[sl, x], argTypes := #[t, u] })
    (base : Nat) (e : TypeId) (i : TypeInfo) (ht : P.underlying t = some (.slice e)) (hu : P.underlying u = some .string) (hi : P.info? e = some i) (hz : i.zero = some (.int .u8 0))
    (hsize : i.size = 1) (hby : i.bytes = 1) (v : Value) (n : Nat) (xs : List Value) (hs : a.eval sl = v) (hown : w.ownsRow base e 1 v n xs) (s : ByteArray) (hx : a.eval x = .string s)
    (h63 : n + s.size ≤ maxLen) (hbytes : n + s.size ≤ 140737488355328) (hbase : base ≤ w.heap.size)
    (h : ∀ v' w', w'.ownsRow base e 1 v' (n + s.size) (xs ++ Lib.strCells s) → w.grownBy w' v.ownBlock → (v'.ownBlock = v.ownBlock ∨ ∃ g, v'.ownBlock = some g ∧ w.heap.size ≤ g) → wpList P ops Q rest (a.put o.dst v') w') : wpList P ops Q (o :: rest) a w := by
  obtain ⟨v', w', hr, h2, h3, h4⟩ := run_str_at (P := P) w base t u o.type e i ht hu hi hz hsize hby v n xs hown s h63 hbytes hbase
  refine wpList_plain hgd fun K hK => ?_
  have := hK _ _ (h v' w' h2 h3 h4)
  unfold Oper.wp execOp
  simp only [ho, resolve, invoke, builtin, Sem.run_bind, Sem.run_pure, Result.andThen_ok, List.map_toArray, List.map_cons, List.map_nil, hs, hx, hr]
  exact this
/-- A builder at block b whose buffer is v and whose bytes are bs. -/
def Bld (w : World) (B b : Nat) (v : Value) (bs : List Value) : Prop :=
  B ≤ b ∧ (w.heap[b]? = some (.cells #[.pointer none, v] 209 (0, 0)) ∨ w.heap[b]? = some (.cells #[.pointer (some ⟨b, 0, none⟩), v] 209 (0, 0))) ∧ w.ownsRow B 5 1 v bs.length bs
theorem Bld.is {w : World} {B b : Nat} {v : Value} {bs : List Value} (h : Bld w B b v bs) : Lib.IsBuilder 209 5 B b bs w := by
  obtain ⟨h1, h2, h3⟩ := h
  rcases h2 with h2 | h2
  · exact .inl ⟨h1, v, h2, h3, Lib.ownBlock_ne h3 h2 (by decide)⟩
  · exact .inr ⟨h1, v, h2, h3, Lib.ownBlock_ne h3 h2 (by decide)⟩
theorem Bld.lt {w : World} {B b : Nat} {v : Value} {bs : List Value} (h : Bld w B b v bs) : b < w.heap.size := by
  rcases Nat.lt_or_ge b w.heap.size with h' | h'
  · exact h'
  · rcases h.2.1 with h2 | h2 <;> rw [Array.getElem?_eq_none h'] at h2 <;> cases h2
theorem Bld.ne {w : World} {B b c : Nat} {v u : Value} {bs cs : List Value} (h : Bld w B b v bs) (k : Bld w B c u cs) : v.ownBlock ≠ some c := by
  rcases k.2.1 with h2 | h2 <;> exact Lib.ownBlock_ne h.2.2 h2 (by decide)
theorem Bld.row_lt {w : World} {B b : Nat} {v : Value} {bs : List Value} (h : Bld w B b v bs) {g : Nat} (hg : v.ownBlock = some g) : g < w.heap.size := by
  rcases h.2.2.2 with ⟨rfl, _⟩ | ⟨g', cap, cur, rfl, _, hgd, _⟩
  · cases hg
  · simp only [Value.ownBlock, Option.some.injEq] at hg
    subst hg
    rcases Nat.lt_or_ge g' w.heap.size with h' | h'
    · exact h'
    · rw [Array.getElem?_eq_none h'] at hgd; cases hgd
/-- What WriteString on the builder at b, with the buffer in row, leaves as it was. -/
structure Fr (b : Nat) (row : Option Nat) (w w' : World) : Prop where
  os : w'.os = w.os
  tape : w'.tape = w.tape
  output : w'.output = w.output
  size : w.heap.size ≤ w'.heap.size
  block : ∀ k, k < w.heap.size → k ≠ b → some k ≠ row → w'.heap[k]? = w.heap[k]?
theorem Fr.below {b B : Nat} {v : Value} {bs : List Value} {w w' : World} (h : Fr b v.ownBlock w w') (k : Bld w B b v bs) : Below B w w' := by
  refine ⟨h.os, h.tape, h.output, h.size, fun j hj => h.block j (Nat.lt_trans (Nat.lt_of_lt_of_le hj k.1) k.lt) (by have := k.1; omega) ?_⟩
  intro he
  rcases k.2.2.2 with ⟨rfl, _⟩ | ⟨g', cap, cur, rfl, hb, _⟩
  · cases he
  · simp only [Value.ownBlock, Option.some.injEq] at he
    omega
theorem Bld.other {w w' : World} {B b c : Nat} {v u : Value} {bs cs : List Value} (h : Bld w B b v bs) (k : Bld w B c u cs) (hne : c ≠ b) (hd : u.ownBlock = none ∨ u.ownBlock ≠ v.ownBlock) (f : Fr b v.ownBlock w w') : Bld w' B c u cs := by
  have hc : w'.heap[c]? = w.heap[c]? := f.block c k.lt hne (fun e => h.ne k e.symm)
  refine ⟨k.1, by rw [hc]; exact k.2.1, k.2.2.1, ?_⟩
  rcases k.2.2.2 with h1 | ⟨g, cap, cur, rfl, hb, hgd, rest⟩
  · exact .inl h1
  · refine .inr ⟨g, cap, cur, rfl, hb, ?_, rest⟩
    rw [f.block g (k.row_lt rfl) (fun e => (k.ne h) (by rw [e]; rfl)) (fun e => by
      rcases hd with hd | hd
      · cases hd
      · exact hd e), hgd]
theorem Bld.used {w : World} {B b : Nat} {v : Value} {bs : List Value} (h : Bld w B b v bs) :
    Calls Tryz.prog 212 #[.pointer (some ⟨b, 0, none⟩)] w fun e w' => e = .returned (.tuple #[]) ∧ w'.heap[b]? = some (.cells #[.pointer (some ⟨b, 0, none⟩), v] 209 (0, 0)) ∧ w'.ownsRow B 5 1 v bs.length bs ∧ Fr b none w w' := by
  have hne := h.ne h
  obtain ⟨h1, h2, h3⟩ := h
  rcases h2 with h2 | h2
  · have hB : Lib.BuilderAt 209 5 B b (.pointer none) bs w := ⟨h1, v, h2, h3, hne⟩
    refine (copyCheck_fresh b w hB.cell0 hB.shape hB.frozen0).mono ?_
    rintro e w' ⟨rfl, rfl⟩
    refine ⟨rfl, by simp [World.setCell, Array.getElem?_modify, h2], ?_, ⟨rfl, rfl, rfl, by simp [World.setCell], fun k _ hk _ => Below.heap_setCell _ _ _ _ hk⟩⟩
    exact h3.kept (row := some b) ⟨rfl, rfl, rfl, by simp [World.setCell], fun k _ hk => Below.heap_setCell _ _ _ _ (fun e => hk (by simp [e]))⟩ (.inr hne)
  · have hB : Lib.BuilderAt 209 5 B b (.pointer (some ⟨b, 0, none⟩)) bs w := ⟨h1, v, h2, h3, hne⟩
    refine (copyCheck_used b w hB.cell0).mono ?_
    rintro e w' ⟨rfl, rfl⟩
    exact ⟨rfl, h2, h3, ⟨rfl, rfl, rfl, Nat.le_refl _, fun _ _ _ _ => rfl⟩⟩
/-- What WriteString leaves. -/
def Wrote (B b : Nat) (v : Value) (bs : List Value) (w : World) (w' : World) : Prop :=
  ∃ v', Bld w' B b v' bs ∧ (v'.ownBlock = v.ownBlock ∨ ∃ g, v'.ownBlock = some g ∧ w.heap.size ≤ g) ∧ Fr b v.ownBlock w w'
set_option maxHeartbeats 1000000 in
set_option maxRecDepth 100000 in
theorem write_at (B b : Nat) (v : Value) (bs : List Value) (s : ByteArray) (w : World) (h : Bld w B b v bs) (hlen : bs.length + s.size ≤ 140737488355328) :
    Calls Tryz.prog 116 #[.pointer (some ⟨b, 0, none⟩), .string s] w fun e w' => e = .returned (.tuple #[.int .i64 s.size, .nilIface]) ∧ Wrote B b v (bs ++ Lib.strCells s) w w' := by
  obtain ⟨i0, hi, hz0, hz1, hz2⟩ := info_parts infoByte
  have hB1 := h.1
  have hlt0 := h.lt
  have hvb := h.ne h
  go_enter Tryz.func116, Tryz.ntmps116
  go_wp2_with (go_at_call 212; refine (h.used).mono ?_)
  rintro e w1 ⟨rfl, hbk, hown, hf1⟩
  have hsz := hf1.size
  have c0 : w1.cell? ⟨b, 0, none⟩ = some (.pointer (some ⟨b, 0, none⟩)) := by rw [Lib.cell_of_heap hbk]; rfl
  have c1 : w1.cell? ⟨b, 1, none⟩ = some v := by rw [Lib.cell_of_heap hbk]; rfl
  go_wp2_with (at_builtin; refine wpList_str_at rfl _ _ 125 9 rfl B 5 i0 Tryz.underlying125 Tryz.underlying9 hi hz0 hz1 hz2 _ _ _ rfl hown s rfl ?c3 ?c4 ?c5 ?_)
  case c3 => unfold maxLen; omega
  case c4 => omega
  case c5 => omega
  intro v' w2 hown' hgrow hloc
  have hlt : b < w1.heap.size := Nat.lt_of_lt_of_le hlt0 hsz
  have hb2 : w2.heap[b]? = some (.cells #[.pointer (some ⟨b, 0, none⟩), v] 209 (0, 0)) := by
    rw [hgrow.block b hlt (fun e => hvb e.symm)]
    exact hbk
  have d0 : w2.cell? ⟨b, 0, none⟩ = some (.pointer (some ⟨b, 0, none⟩)) := by rw [Lib.cell_of_heap hb2]; rfl
  have d1 : w2.cell? ⟨b, 1, none⟩ = some v := by rw [Lib.cell_of_heap hb2]; rfl
  have g1 : w2.frozen? ⟨b, 1, none⟩ = false := Lib.frozen_of_heap hb2 1
  have hat : ∃ ao m cap, v' = .slice ao m cap := by
    rcases hown'.2 with ⟨hv, _⟩ | ⟨g, cap, cur, hv, _⟩
    · exact ⟨_, _, _, hv⟩
    · exact ⟨_, _, _, hv⟩
  have HL := Lib.hid hloc
  have HO := Lib.hid hown'
  have HG := Lib.hid hgrow
  clear hloc hown' hgrow
  obtain ⟨ao, m, cap, rfl⟩ := hat
  go_wp2
  go_ret2
  have hown2 := HO.out
  have hput := Lib.BuilderAt.put (T := 209) (e := 5) (p := .pointer (some ⟨b, 0, none⟩)) hB1 hb2 (bs' := bs ++ Lib.strCells s) (by simpa [Lib.strCells_length] using hown2) (by decide)
  obtain ⟨_, v3, e3, o3, _⟩ := hput
  have hv3 : v3 = .slice ao m cap := by
    have : (w2.setCell ⟨b, 1, none⟩ (.slice ao m cap)).heap[b]? = some (.cells #[.pointer (some ⟨b, 0, none⟩), .slice ao m cap] 209 (0, 0)) := by simp [World.setCell, Array.getElem?_modify, hb2]
    rw [this] at e3
    cases e3; rfl
  subst hv3
  refine ⟨rfl, _, ⟨hB1, .inr e3, o3⟩, ?_, ?_⟩
  · rcases HL.out with h' | ⟨g, hg, hge⟩
    · exact .inl h'
    · exact .inr ⟨g, hg, Nat.le_trans hsz hge⟩
  · refine ⟨?_, ?_, ?_, ?_, ?_⟩
    · exact HG.out.os.trans hf1.os
    · exact HG.out.tape.trans hf1.tape
    · exact HG.out.output.trans hf1.output
    · have := HG.out.size; simp [World.setCell]; omega
    · intro k hk hkb hkr
      rw [show (w2.setCell ⟨b, 1, none⟩ (.slice ao m cap)).heap[k]? = w2.heap[k]? from Below.heap_setCell _ _ _ _ hkb, HG.out.block k (by omega) hkr, hf1.block k hk hkb (by simp)]
end Go.Proofs.YtgmneapgihakgaaGreatDoor
/- String of one of two builders, with all that it turns; the two builders together. -/
namespace Go.Proofs.YtgmneapgihakgaaGreatDoor
open Go.RowKit
theorem fr_drew {b : Nat} {row : Option Nat} (w : World) : Fr b row w w.drew := ⟨rfl, rfl, rfl, Nat.le_refl _, fun _ _ _ _ => rfl⟩
theorem fr_freeze {b g n : Nat} (w : World) : Fr b (some g) w (w.drew.freeze ⟨g, 0, none⟩ n) := by
  have h := Lib.below_freeze (Below.drew (Below.refl g w)) (p := ⟨g, 0, none⟩) (Nat.le_refl g) n
  refine ⟨h.os, h.tape, h.output, h.size, fun k _ _ hk => ?_⟩
  have hne : g ≠ k := fun e => hk (by rw [e])
  show (w.drew.freeze ⟨g, 0, none⟩ n).heap[k]? = _
  unfold World.freeze
  split
  · rfl
  · show (Array.modify _ g _)[k]? = _
    rw [Array.getElem?_modify, if_neg hne]; rfl
set_option maxHeartbeats 1000000 in
set_option maxRecDepth 100000 in
theorem string_some (B b : Nat) (v : Value) (l : List UInt8) (w : World) (h : Bld w B b v (Lib.byteCells l)) (h0 : l ≠ []) :
    Calls Tryz.prog 118 #[.pointer (some ⟨b, 0, none⟩)] w fun e w' => e = .returned (.string (str l)) ∧ Fr b v.ownBlock w w' := by
  obtain ⟨hB, hbk0, hown⟩ := h
  obtain ⟨p, hbk⟩ : ∃ p, w.heap[b]? = some (.cells #[p, v] 209 (0, 0)) := by
    rcases hbk0 with hb | hb
    · exact ⟨_, hb⟩
    · exact ⟨_, hb⟩
  have hl0 : l.length ≠ 0 := by simpa using h0
  rw [Lib.byteCells_length] at hown
  obtain ⟨g, cap, cur, rfl, hbg, hg, hnc, hcm, hcs, htake⟩ : ∃ g cap cur, v = .slice (some ⟨g, 0, none⟩) l.length cap ∧ B ≤ g ∧ w.heap[g]? = some (.cells cur 5 (0, 0)) ∧ l.length ≤ cap ∧ cap ≤ maxLen ∧ cur.size = cap * 1 ∧ cur.toList.take (l.length * 1) = Lib.byteCells l := by
    rcases hown.2 with ⟨_, hz⟩ | ⟨g, cap, cur, hv, r⟩
    · exact absurd hz hl0
    · exact ⟨g, cap, cur, hv, r⟩
  have c1 : w.drew.cell? ⟨b, 1, none⟩ = some (.slice (some ⟨g, 0, none⟩) l.length cap) := by
    have : w.drew.heap[b]? = some (.cells #[p, .slice (some ⟨g, 0, none⟩) l.length cap] 209 (0, 0)) := hbk
    rw [Lib.cell_of_heap this]; rfl
  have hSD : (Builtin.unsafeSliceData_ #[125] 303 #[.slice (some ⟨g, 0, none⟩) l.length cap]).run Tryz.prog w.drew = .ok (.pointer (some ⟨g, 0, none⟩)) w.drew :=
    Lib.run_unsafeSliceData_row _ _ _ _ _ _ (by omega)
  have hUS : (Builtin.unsafeString_ #[303, 3] 9 #[.pointer (some ⟨g, 0, none⟩), .int .i64 l.length]).run Tryz.prog w.drew = .ok (.string (str l)) (w.drew.freeze ⟨g, 0, none⟩ l.length) := by
    refine Lib.run_unsafeString_row w.drew 303 3 9 5 Tryz.underlying303 (Tryz.Builder_Extra_169.cellsByte) g cur.size (by have hg' : w.drew.heap[g]? = some (.cells cur 5 (0, 0)) := hg; simp [World.shape?, hg']) l h0 (by omega) (by unfold maxLen at hcm; omega) ?_
    intro j x hx
    exact hown.cells (g := g) rfl j (.int .u8 x.toNat) (by simp [Lib.byteCells, hx])
  have hfr : Hid (Fr b (some g) w (w.drew.freeze ⟨g, 0, none⟩ l.length)) := fr_freeze w
  go_enter Tryz.func118, Tryz.ntmps118
  go_wp2
  go_region
  all_goals (go_wp2; go_ret; exact ⟨rfl, hfr.out⟩)
set_option maxHeartbeats 1000000 in
set_option maxRecDepth 100000 in
theorem string_none (B b : Nat) (w : World) (h : Bld w B b (.slice none 0 0) []) :
    Calls Tryz.prog 118 #[.pointer (some ⟨b, 0, none⟩)] w fun e w' => e = .returned (.string (str [])) ∧ Fr b none w w' := by
  obtain ⟨hB, hbk0, hown⟩ := h
  obtain ⟨p, hbk⟩ : ∃ p, w.heap[b]? = some (.cells #[p, .slice none 0 0] 209 (0, 0)) := by
    rcases hbk0 with hb | hb
    · exact ⟨_, hb⟩
    · exact ⟨_, hb⟩
  have hUS : ∀ (w : World), (Builtin.unsafeString_ #[303, 3] 9 #[.pointer none, .int .i64 0]).run Tryz.prog w = .ok (.string ⟨#[]⟩) w := fun w => by kernel_rfl
  have c1 : w.drew.cell? ⟨b, 1, none⟩ = some (.slice none 0 0) := by
    have : w.drew.heap[b]? = some (.cells #[p, .slice none 0 0] 209 (0, 0)) := hbk
    rw [Lib.cell_of_heap this]; rfl
  have hSD : (Builtin.unsafeSliceData_ #[125] 303 #[.slice none 0 0]).run Tryz.prog w.drew = .ok (.pointer none) w.drew := rfl
  go_enter Tryz.func118, Tryz.ntmps118
  go_wp2
  go_region
  all_goals (go_wp2; go_ret; exact ⟨rfl, fr_drew w⟩)
end Go.Proofs.YtgmneapgihakgaaGreatDoor
/- Two builders together: what each call on one of them leaves. -/
namespace Go.Proofs.YtgmneapgihakgaaGreatDoor
open Go.RowKit
def Apart (v u : Value) : Prop := ∀ g, v.ownBlock = some g → u.ownBlock ≠ some g
theorem Apart.symm {v u : Value} (h : Apart v u) : Apart u v := fun g hg hv => h g hv hg
theorem Apart.side {v u : Value} (h : Apart v u) : u.ownBlock = none ∨ u.ownBlock ≠ v.ownBlock := by
  rcases hu : u.ownBlock with _ | g
  · exact .inl rfl
  · exact .inr fun e => h g e.symm hu
def Duo (w : World) (B p q : Nat) (bs cs : List Value) : Prop :=
  p ≠ q ∧ ∃ v u, Bld w B p v bs ∧ Bld w B q u cs ∧ Apart v u ∧ (bs = [] → v = .slice none 0 0) ∧ (cs = [] → u = .slice none 0 0)
theorem Duo.symm {w : World} {B p q : Nat} {bs cs : List Value} (h : Duo w B p q bs cs) : Duo w B q p cs bs := by
  obtain ⟨h0, v, u, h1, h2, h3, h4, h5⟩ := h
  exact ⟨fun e => h0 e.symm, u, v, h2, h1, h3.symm, h5, h4⟩
theorem Bld.below {w w' : World} {B b : Nat} {v : Value} {bs : List Value} (h : Bld w B b v bs) (hb : Below w.heap.size w w') : Bld w' B b v bs :=
  ⟨h.1, by rw [hb.block b h.lt]; exact h.2.1, own_below h.2.2 hb (Nat.le_refl _)⟩
theorem Duo.below {w w' : World} {B p q : Nat} {bs cs : List Value} (h : Duo w B p q bs cs) (hb : Below w.heap.size w w') : Duo w' B p q bs cs := by
  obtain ⟨h0, v, u, h1, h2, rest⟩ := h
  exact ⟨h0, v, u, h1.below hb, h2.below hb, rest⟩
theorem Duo.lt {w : World} {B p q : Nat} {bs cs : List Value} (h : Duo w B p q bs cs) : B < w.heap.size := by
  obtain ⟨h0, v, u, h1, h2, rest⟩ := h
  exact Nat.lt_of_le_of_lt h1.1 h1.lt
theorem Duo.new (w : World) (B : Nat) (hB : B ≤ w.heap.size) :
    Duo ((w.alloc (.cells #[.pointer none, .slice none 0 0] 209)).alloc (.cells #[.pointer none, .slice none 0 0] 209)) B w.heap.size (w.heap.size + 1) [] [] := by
  refine ⟨by omega, .slice none 0 0, .slice none 0 0, ⟨hB, .inl ?_, World.ownsRow_nil _ _ _ _⟩, ⟨by omega, .inl ?_, World.ownsRow_nil _ _ _ _⟩, (show Apart _ _ from (fun _ h => by cases h)), fun _ => rfl, fun _ => rfl⟩
  · show ((w.heap.push _).push _)[w.heap.size]? = _
    simp [Array.getElem?_push]
  · show ((w.heap.push _).push _)[w.heap.size + 1]? = _
    rw [Array.getElem?_push, if_pos (by simp)]
/-- What is neither a builder nor a row of bytes stays. -/
def Keeps (w w' : World) : Prop := ∀ (k : Nat) (cs : Array Value) (T : TypeId), T ≠ 209 → T ≠ 5 → w.heap[k]? = some (Obj.cells cs T (0, 0)) → w'.heap[k]? = some (Obj.cells cs T (0, 0))
theorem Fr.keeps {B b : Nat} {v : Value} {bs : List Value} {w w' : World} (f : Fr b v.ownBlock w w') (h : Bld w B b v bs) : Keeps w w' := by
  intro k cs T h1 h2 hk
  have hlt : k < w.heap.size := by
    rcases Nat.lt_or_ge k w.heap.size with h' | h'
    · exact h'
    · rw [Array.getElem?_eq_none h'] at hk; cases hk
  rw [f.block k hlt ?_ ?_, hk]
  · rintro rfl
    rcases h.2.1 with h3 | h3 <;> rw [hk] at h3 <;> cases h3 <;> exact h1 rfl
  · intro he
    rcases h.2.2.2 with ⟨rfl, _⟩ | ⟨g, cap, cur, rfl, _, hg, _⟩
    · cases he
    · simp only [Value.ownBlock, Option.some.injEq] at he
      subst he
      rw [hk] at hg; cases hg; exact h2 rfl
theorem Keeps.cell {w w' : World} (h : Keeps w w') {k : Nat} {cs : Array Value} {T : TypeId} (h1 : T ≠ 209) (h2 : T ≠ 5) (hk : w.heap[k]? = some (.cells cs T (0, 0))) (j : Nat) (x : Value) (hx : cs[j]? = some x) : w'.cell? ⟨k, j, none⟩ = some x := by
  rw [Lib.cell_of_heap (h k cs T h1 h2 hk), hx]
theorem Duo.write {w : World} {B p q : Nat} {bs cs : List Value} (h : Duo w B p q bs cs) (s : ByteArray) (hs : s.size ≠ 0) (hlen : bs.length + s.size ≤ 140737488355328) :
    Calls Tryz.prog 116 #[.pointer (some ⟨p, 0, none⟩), .string s] w fun e w' => e = .returned (.tuple #[.int .i64 s.size, .nilIface]) ∧ Duo w' B p q (bs ++ Lib.strCells s) cs ∧ Below B w w' ∧ Keeps w w' := by
  obtain ⟨h0, v, u, h1, h2, h3, h4, h5⟩ := h
  refine (write_at B p v bs s w h1 hlen).mono ?_
  rintro e w' ⟨rfl, v', k1, k2, k3⟩
  refine ⟨rfl, ⟨h0, v', u, k1, h1.other h2 (fun e => h0 e.symm) h3.side k3, ?_, ?_, h5⟩, k3.below h1, k3.keeps h1⟩
  · intro g hg hu
    rcases k2 with k2 | ⟨g', k2, k2'⟩
    · exact h3 g (k2 ▸ hg) hu
    · have := h2.row_lt hu
      rw [k2] at hg
      cases hg
      omega
  · intro hnil
    have hx := congrArg List.length hnil
    rw [List.length_append, Lib.strCells_length] at hx
    have h9 : ([] : List Value).length = 0 := rfl
    omega
theorem Duo.write2 {w : World} {B p q : Nat} {bs cs : List Value} (h : Duo w B p q bs cs) (s : ByteArray) (hs : s.size ≠ 0) (hlen : cs.length + s.size ≤ 140737488355328) :
    Calls Tryz.prog 116 #[.pointer (some ⟨q, 0, none⟩), .string s] w fun e w' => e = .returned (.tuple #[.int .i64 s.size, .nilIface]) ∧ Duo w' B p q bs (cs ++ Lib.strCells s) ∧ Below B w w' ∧ Keeps w w' :=
  (h.symm.write s hs hlen).mono fun _ _ ⟨h1, h2, h3⟩ => ⟨h1, h2.symm, h3⟩
theorem Duo.len2 {w : World} {B p q : Nat} {bs : List Value} {l : List UInt8} (h : Duo w B p q bs (Lib.byteCells l)) :
    Calls Tryz.prog 117 #[.pointer (some ⟨q, 0, none⟩)] w fun e w' => e = .returned (.int .i64 l.length) ∧ w = w' := by
  obtain ⟨h0, v, u, h1, h2, h3, h4, h5⟩ := h
  have := Tryz.Builder_Len B q (Lib.byteCells l) w h2.is
  rw [Lib.byteCells_length] at this
  exact this.mono fun _ _ ⟨k1, k2⟩ => ⟨k1, k2.symm⟩
theorem Duo.string {w : World} {B p q : Nat} {cs : List Value} {l : List UInt8} (h : Duo w B p q (Lib.byteCells l) cs) :
    Calls Tryz.prog 118 #[.pointer (some ⟨p, 0, none⟩)] w fun e w' => e = .returned (.string (str l)) ∧ (∃ u, Bld w' B q u cs) ∧ Below B w w' := by
  obtain ⟨h0, v, u, h1, h2, h3, h4, h5⟩ := h
  cases l with
  | nil =>
    obtain rfl := h4 rfl
    refine (string_none B p w h1).mono ?_
    rintro e w' ⟨rfl, k⟩
    have k' : Fr p (Value.slice none 0 0).ownBlock w w' := k
    exact ⟨rfl, ⟨u, h1.other h2 (fun e => h0 e.symm) h3.side k'⟩, k'.below h1⟩
  | cons c l =>
    refine (string_some B p v (c :: l) w h1 (by simp)).mono ?_
    rintro e w' ⟨rfl, k⟩
    exact ⟨rfl, ⟨u, h1.other h2 (fun e => h0 e.symm) h3.side k⟩, k.below h1⟩
theorem string_last {w : World} {B q : Nat} {l : List UInt8} (h : ∃ u, Bld w B q u (Lib.byteCells l)) :
    Calls Tryz.prog 118 #[.pointer (some ⟨q, 0, none⟩)] w fun e w' => e = .returned (.string (str l)) ∧ Below B w w' := by
  obtain ⟨u, h⟩ := h
  exact Tryz.Builder_String_any B q l w h.is (Nat.le_of_lt (Nat.lt_of_le_of_lt h.1 h.lt))
end Go.Proofs.YtgmneapgihakgaaGreatDoor
/- A builder and its bytes: new, a text, a byte, the text. -/
namespace Go.Proofs.YtgmneapgihakgaaGreatDoor
open Go.RowKit
def BX (w : World) (B b : Nat) (l : List UInt8) : Prop := ∃ u, Bld w B b u (Lib.byteCells l)
theorem BX.below {w w' : World} {B b : Nat} {l : List UInt8} (h : BX w B b l) (hb : Below w.heap.size w w') : BX w' B b l := by
  obtain ⟨u, h⟩ := h
  exact ⟨u, h.below hb⟩
theorem BX.lt {w : World} {B b : Nat} {l : List UInt8} (h : BX w B b l) : b < w.heap.size := by
  obtain ⟨u, h⟩ := h
  exact h.lt
theorem BX.le {w : World} {B b : Nat} {l : List UInt8} (h : BX w B b l) : B ≤ b := by
  obtain ⟨u, h⟩ := h
  exact h.1
theorem BX.new (w : World) : BX (w.alloc (.cells #[.pointer none, .slice none 0 0] 209)) w.heap.size w.heap.size [] := by
  refine ⟨.slice none 0 0, Nat.le_refl _, .inl ?_, World.ownsRow_nil _ _ _ _⟩
  exact heap_alloc_new w _
theorem bxl (l : List UInt8) : (Lib.byteCells l).length = l.length := by simp [Lib.byteCells]
theorem bxa (l m : List UInt8) : Lib.byteCells l ++ Lib.byteCells m = Lib.byteCells (l ++ m) := by simp [Lib.byteCells]
theorem BX.write {w : World} {B b : Nat} {l : List UInt8} (h : BX w B b l) (s : List UInt8) (hl : l.length + s.length ≤ 1000000000) :
    Calls Tryz.prog 116 #[.pointer (some ⟨b, 0, none⟩), .string (str s)] w fun e w' => e = .returned (.tuple #[.int .i64 s.length, .nilIface]) ∧ BX w' B b (l ++ s) ∧ Below B w w' := by
  obtain ⟨u, h⟩ := h
  refine (write_at B b u _ (str s) w h (by rw [bxl, str_size]; omega)).mono ?_
  rintro e w' ⟨rfl, v', hw, _, hf⟩
  refine ⟨rfl, ⟨v', ?_⟩, hf.below h⟩
  rw [show Lib.strCells (str s) = Lib.byteCells s from rfl, bxa] at hw
  exact hw
theorem BX.string {w : World} {B b : Nat} {l : List UInt8} (h : BX w B b l) :
    Calls Tryz.prog 118 #[.pointer (some ⟨b, 0, none⟩)] w fun e w' => e = .returned (.string (str l)) ∧ Below B w w' := string_last h
set_option maxHeartbeats 2000000 in
theorem writeByte_any (B b : Nat) (bs : List Value) (c : Int) (w : World) (h : Lib.IsBuilder 209 5 B b bs w) (hlen : bs.length + 1 ≤ 140737488355328) (hBw : B ≤ w.heap.size) :
    Calls Tryz.prog 147 #[.pointer (some ⟨b, 0, none⟩), .int .u8 c] w fun e w' => e = .returned .nilIface ∧ (Lib.BuilderAt 209 5 B b (.pointer (some ⟨b, 0, none⟩)) (bs ++ [.int .u8 c]) w' ∧ Below B w w') := by
  obtain ⟨i0, hi, hz0, hz1, hz2⟩ := info_parts infoByte
  go_enter Tryz.func147, Tryz.ntmps147
  go_wp2_with (go_at_call 212; refine (copyCheck_any B b bs _ h).mono ?_)
  rintro e w1 ⟨rfl, h1, hb1⟩
  obtain ⟨hB, v, hbk, hown, hne⟩ := h1
  have c0 : w1.cell? ⟨b, 0, none⟩ = some (.pointer (some ⟨b, 0, none⟩)) := by rw [Lib.cell_of_heap hbk]; rfl
  have c1 : w1.cell? ⟨b, 1, none⟩ = some v := by rw [Lib.cell_of_heap hbk]; rfl
  go_wp2_with (at_builtin; refine wpList_append_own _ rfl _ _ 125 rfl B 5 i0 (.int .u8 0) 1 1 Tryz.underlying125 hi hz0 hz1 hz2 rfl (by decide) _ _ _ rfl (hown.alloc _) ⟨w1.heap.size, 0, none⟩ 1 1 [.int .u8 c] rfl rfl ?c1 ?c2 ?c3 ?c4 ?c5 ?_)
  case c1 =>
    intro j u hj
    match j, hj with
    | 0, hj => simp at hj; subst hj; simp [Addr.add]
  case c2 => intro u hu; simp at hu; subst hu; rfl
  case c3 => unfold maxLen; omega
  case c4 => omega
  case c5 => have := hb1.size; simp; omega
  intro v' w2 hown' hgrow _
  have hlt : b < w1.heap.size := by
    rcases Nat.lt_or_ge b w1.heap.size with h' | h'
    · exact h'
    · simp [Array.getElem?_eq_none h'] at hbk
  have hb2 : w2.heap[b]? = some (.cells #[.pointer (some ⟨b, 0, none⟩), v] 209 (0, 0)) := by
    rw [hgrow.block b (by simp; omega) (fun e => hne e.symm), Lib.alloc_old w1 _ b hlt]
    exact hbk
  have d0 : w2.cell? ⟨b, 0, none⟩ = some (.pointer (some ⟨b, 0, none⟩)) := by rw [Lib.cell_of_heap hb2]; rfl
  have d1 : w2.cell? ⟨b, 1, none⟩ = some v := by rw [Lib.cell_of_heap hb2]; rfl
  have g1 : w2.frozen? ⟨b, 1, none⟩ = false := Lib.frozen_of_heap hb2 1
  obtain ⟨ao, m, cap, rfl⟩ : ∃ ao m cap, v' = .slice ao m cap := by
    rcases hown'.2 with ⟨hv, _⟩ | ⟨g, cap, cur, hv, _⟩
    · exact ⟨_, _, _, hv⟩
    · exact ⟨_, _, _, hv⟩
  go_wp2
  go_ret
  refine ⟨rfl, ?_, ?_⟩
  · exact Lib.BuilderAt.put (T := 209) (e := 5) hB hb2 (bs' := bs ++ [.int .u8 c]) (by simpa using hown') (by decide)
  · have hA : Below B w (w1.alloc (.cells #[.int .u8 c] 5)) := hb1.alloc (by have := hb1.size; omega) _
    exact (hA.grown hgrow (by rw [World.size_alloc]; have := hb1.size; omega) (fun k hk => (hown.lt k hk).1)).setCell (p := ⟨b, 1, none⟩) hB _
theorem BX.byte {w : World} {B b : Nat} {l : List UInt8} (h : BX w B b l) (c : UInt8) (hl : l.length + 1 ≤ 1000000000) :
    Calls Tryz.prog 147 #[.pointer (some ⟨b, 0, none⟩), .int .u8 (c.toNat : Int)] w fun e w' => e = .returned .nilIface ∧ BX w' B b (l ++ [c]) ∧ Below B w w' := by
  have hlt := h.lt
  have hle := h.le
  obtain ⟨u, h⟩ := h
  refine (writeByte_any B b _ (c.toNat : Int) w h.is (by rw [bxl]; omega) (by omega)).mono ?_
  rintro e w' ⟨rfl, ⟨hB, v, hbk, hown, hne⟩, hb⟩
  refine ⟨rfl, ⟨v, hB, .inr hbk, ?_⟩, hb⟩
  rw [← bxa]
  exact hown
end Go.Proofs.YtgmneapgihakgaaGreatDoor
