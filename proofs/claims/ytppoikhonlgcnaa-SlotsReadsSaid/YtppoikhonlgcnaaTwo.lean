/- Two builders side by side: WriteString on one leaves the other as it was; String with all that it turns. -/
import Derived.Test.YtppoikhonlgcnaaBuilder
import Derived.Test.YtppoikhonlgcnaaEnc
namespace Go.Proofs.Ytppoikhonlgcnaa
open Go.RowKit
theorem run_str_at {P : Program} (w : World) (base : Nat) (t u ty e : TypeId) (i : TypeInfo) (ht : P.underlying t = some (.slice e)) (hu : P.underlying u = some .string) (hi : P.info? e = some i) (hz : i.zero = some (.int .u8 0))
    (hsize : i.size = 1) (hby : i.bytes = 1) (v : Value) (n : Nat) (xs : List Value) (hown : w.ownsRow base e 1 v n xs) (s : ByteArray)
    (h63 : n + s.size ≤ maxLen) (hbytes : n + s.size ≤ 140737488355328) (hbase : base ≤ w.heap.size) :
    ∃ v' w', (Builtin.append_ #[t, u] ty #[v, .string s]).run P w = .ok v' w' ∧ w'.ownsRow base e 1 v' (n + s.size) (xs ++ Lib.strCells s) ∧ w.grownBy w' v.ownBlock ∧
      (v'.ownBlock = v.ownBlock ∨ ∃ g, v'.ownBlock = some g ∧ w.heap.size ≤ g) := by
  obtain ⟨v', w', hr, ho, hg, _⟩ := Lib.run_append_own_string (P := P) w base t u ty e i ht hu hi hz hsize hby v n xs hown s h63 hbytes hbase
  refine ⟨v', w', hr, ho, hg, ?_⟩
  have hlen : xs.length = n := by simpa using hown.1
  rcases hown.2 with ⟨rfl, rfl⟩ | ⟨g, cap, cur, rfl, hbg, hgd, hnc, hcm, hcs, htake⟩
  · obtain rfl : xs = [] := List.eq_nil_of_length_eq_zero hlen
    obtain ⟨v2, w2, hr2, ho2, _, _⟩ := Lib.run_append_own_string (P := P) w w.heap.size t u ty e i ht hu hi hz hsize hby _ 0 [] (World.ownsRow_nil w w.heap.size e 1) s h63 hbytes (Nat.le_refl _)
    rw [hr] at hr2
    cases hr2
    rcases ho2.2 with ⟨rfl, _⟩ | ⟨g, cap, cur, rfl, hbg, _⟩
    · exact .inl rfl
    · exact .inr ⟨g, rfl, hbg⟩
  · by_cases hroom : n + s.size ≤ cap
    · have hr2 := Lib.run_append_room_string (P := P) w t u ty e i ht hu hi hsize g n cap cur hgd s hroom (by rw [hcs]; omega)
      rw [hr] at hr2
      cases hr2
      exact .inl rfl
    · have hr2 := Lib.run_append_grow_string (P := P) w t u ty e i (.int .u8 0) ht hu hi hz ⟨g, 0, none⟩ n cap xs (by rw [hsize]; omega) (hown.cells (g := g) rfl) s (by omega) (by unfold maxLen at h63; omega) (by rw [hby]; exact growslice_fits (by omega) (by omega))
      rw [hr] at hr2
      cases hr2
      exact .inr ⟨_, rfl, Nat.le_refl _⟩
theorem wpList_str_at {P : Program} {w : World} {ops : Array Oper} {rest : List Oper} {o : Oper} {a : Act} {Q : Exit → Act → World → Prop} (hgd : o.guard = none) (sl x : Operand) (t u : TypeId)
    (ho : o.op = .call { callee := .builtin .append, args := #[sl, x], argTypes := #[t, u] })
    (base : Nat) (e : TypeId) (i : TypeInfo) (ht : P.underlying t = some (.slice e)) (hu : P.underlying u = some .string) (hi : P.info? e = some i) (hz : i.zero = some (.int .u8 0))
    (hsize : i.size = 1) (hby : i.bytes = 1) (v : Value) (n : Nat) (xs : List Value) (hs : a.eval sl = v) (hown : w.ownsRow base e 1 v n xs) (s : ByteArray) (hx : a.eval x = .string s)
    (h63 : n + s.size ≤ maxLen) (hbytes : n + s.size ≤ 140737488355328) (hbase : base ≤ w.heap.size)
    (h : ∀ v' w', w'.ownsRow base e 1 v' (n + s.size) (xs ++ Lib.strCells s) → w.grownBy w' v.ownBlock → (v'.ownBlock = v.ownBlock ∨ ∃ g, v'.ownBlock = some g ∧ w.heap.size ≤ g) → wpList P ops Q rest (a.put o.dst v') w') : wpList P ops Q (o :: rest) a w := by
  obtain ⟨v', w', hr, h2, h3, h4⟩ := run_str_at (P := P) w base t u o.type e i ht hu hi hz hsize hby v n xs hown s h63 hbytes hbase
  refine wpList_plain hgd fun K hK => ?_
  have := hK _ _ (h v' w' h2 h3 h4)
  unfold Oper.wp execOp
  simp only [ho, resolve, invoke, builtin, Sem.run_bind, Sem.run_pure, Result.andThen_ok, List.map_toArray, List.map_cons, List.map_nil, hs, hx, hr]
  exact this
/-- A builder at block b whose buffer is v and whose bytes are bs. -/
def Bld (w : World) (B b : Nat) (v : Value) (bs : List Value) : Prop :=
  B ≤ b ∧ (w.heap[b]? = some (.cells #[.pointer none, v] 87 (0, 0)) ∨ w.heap[b]? = some (.cells #[.pointer (some ⟨b, 0, none⟩), v] 87 (0, 0))) ∧ w.ownsRow B 5 1 v bs.length bs
theorem Bld.is {w : World} {B b : Nat} {v : Value} {bs : List Value} (h : Bld w B b v bs) : Lib.IsBuilder 87 5 B b bs w := by
  obtain ⟨h1, h2, h3⟩ := h
  rcases h2 with h2 | h2
  · exact .inl ⟨h1, v, h2, h3, Lib.ownBlock_ne h3 h2 (by decide)⟩
  · exact .inr ⟨h1, v, h2, h3, Lib.ownBlock_ne h3 h2 (by decide)⟩
theorem Bld.lt {w : World} {B b : Nat} {v : Value} {bs : List Value} (h : Bld w B b v bs) : b < w.heap.size := by
  rcases Nat.lt_or_ge b w.heap.size with h' | h'
  · exact h'
  · rcases h.2.1 with h2 | h2 <;> rw [Array.getElem?_eq_none h'] at h2 <;> cases h2
theorem Bld.ne {w : World} {B b c : Nat} {v u : Value} {bs cs : List Value} (h : Bld w B b v bs) (k : Bld w B c u cs) : v.ownBlock ≠ some c := by
  rcases k.2.1 with h2 | h2 <;> exact Lib.ownBlock_ne h.2.2 h2 (by decide)
theorem Bld.row_lt {w : World} {B b : Nat} {v : Value} {bs : List Value} (h : Bld w B b v bs) {g : Nat} (hg : v.ownBlock = some g) : g < w.heap.size := by
  rcases h.2.2.2 with ⟨rfl, _⟩ | ⟨g', cap, cur, rfl, _, hgd, _⟩
  · cases hg
  · simp only [Value.ownBlock, Option.some.injEq] at hg
    subst hg
    rcases Nat.lt_or_ge g' w.heap.size with h' | h'
    · exact h'
    · rw [Array.getElem?_eq_none h'] at hgd; cases hgd
/-- What WriteString on the builder at b, with the buffer in row, leaves as it was. -/
structure Fr (b : Nat) (row : Option Nat) (w w' : World) : Prop where
  os : w'.os = w.os
  tape : w'.tape = w.tape
  output : w'.output = w.output
  size : w.heap.size ≤ w'.heap.size
  block : ∀ k, k < w.heap.size → k ≠ b → some k ≠ row → w'.heap[k]? = w.heap[k]?
theorem Fr.below {b B : Nat} {v : Value} {bs : List Value} {w w' : World} (h : Fr b v.ownBlock w w') (k : Bld w B b v bs) : Below B w w' := by
  refine ⟨h.os, h.tape, h.output, h.size, fun j hj => h.block j (Nat.lt_trans (Nat.lt_of_lt_of_le hj k.1) k.lt) (by have := k.1; omega) ?_⟩
  intro he
  rcases k.2.2.2 with ⟨rfl, _⟩ | ⟨g', cap, cur, rfl, hb, _⟩
  · cases he
  · simp only [Value.ownBlock, Option.some.injEq] at he
    omega
theorem Bld.other {w w' : World} {B b c : Nat} {v u : Value} {bs cs : List Value} (h : Bld w B b v bs) (k : Bld w B c u cs) (hne : c ≠ b) (hd : u.ownBlock = none ∨ u.ownBlock ≠ v.ownBlock) (f : Fr b v.ownBlock w w') : Bld w' B c u cs := by
  have hc : w'.heap[c]? = w.heap[c]? := f.block c k.lt hne (fun e => h.ne k e.symm)
  refine ⟨k.1, by rw [hc]; exact k.2.1, k.2.2.1, ?_⟩
  rcases k.2.2.2 with h1 | ⟨g, cap, cur, rfl, hb, hgd, rest⟩
  · exact .inl h1
  · refine .inr ⟨g, cap, cur, rfl, hb, ?_, rest⟩
    rw [f.block g (k.row_lt rfl) (fun e => (k.ne h) (by rw [e]; rfl)) (fun e => by
      rcases hd with hd | hd
      · cases hd
      · exact hd e), hgd]
theorem Bld.used {w : World} {B b : Nat} {v : Value} {bs : List Value} (h : Bld w B b v bs) :
    Calls Try.prog 88 #[.pointer (some ⟨b, 0, none⟩)] w fun e w' => e = .returned (.tuple #[]) ∧ w'.heap[b]? = some (.cells #[.pointer (some ⟨b, 0, none⟩), v] 87 (0, 0)) ∧ w'.ownsRow B 5 1 v bs.length bs ∧ Fr b none w w' := by
  have hne := h.ne h
  obtain ⟨h1, h2, h3⟩ := h
  rcases h2 with h2 | h2
  · have hB : Lib.BuilderAt 87 5 B b (.pointer none) bs w := ⟨h1, v, h2, h3, hne⟩
    refine (copyCheck_fresh b w hB.cell0 hB.shape hB.frozen0).mono ?_
    rintro e w' ⟨rfl, rfl⟩
    refine ⟨rfl, by simp [World.setCell, Array.getElem?_modify, h2], ?_, ⟨rfl, rfl, rfl, by simp [World.setCell], fun k _ hk _ => Below.heap_setCell _ _ _ _ hk⟩⟩
    exact h3.kept (row := some b) ⟨rfl, rfl, rfl, by simp [World.setCell], fun k _ hk => Below.heap_setCell _ _ _ _ (fun e => hk (by simp [e]))⟩ (.inr hne)
  · have hB : Lib.BuilderAt 87 5 B b (.pointer (some ⟨b, 0, none⟩)) bs w := ⟨h1, v, h2, h3, hne⟩
    refine (copyCheck_used b w hB.cell0).mono ?_
    rintro e w' ⟨rfl, rfl⟩
    exact ⟨rfl, h2, h3, ⟨rfl, rfl, rfl, Nat.le_refl _, fun _ _ _ _ => rfl⟩⟩
/-- What WriteString leaves. -/
def Wrote (B b : Nat) (v : Value) (bs : List Value) (w : World) (w' : World) : Prop :=
  ∃ v', Bld w' B b v' bs ∧ (v'.ownBlock = v.ownBlock ∨ ∃ g, v'.ownBlock = some g ∧ w.heap.size ≤ g) ∧ Fr b v.ownBlock w w'
set_option maxHeartbeats 1000000 in
set_option maxRecDepth 100000 in
theorem write_at (B b : Nat) (v : Value) (bs : List Value) (s : ByteArray) (w : World) (h : Bld w B b v bs) (hlen : bs.length + s.size ≤ 140737488355328) :
    Calls Try.prog 45 #[.pointer (some ⟨b, 0, none⟩), .string s] w fun e w' => e = .returned (.tuple #[.int .i64 s.size, .nilIface]) ∧ Wrote B b v (bs ++ Lib.strCells s) w w' := by
  obtain ⟨i0, hi, hz0, hz1, hz2⟩ := info_parts infoByte
  have hB1 := h.1
  have hlt0 := h.lt
  have hvb := h.ne h
  go_enter Try.func45, Try.ntmps45
  go_wp2_with (go_at_call 88; refine (h.used).mono ?_)
  rintro e w1 ⟨rfl, hbk, hown, hf1⟩
  have hsz := hf1.size
  have c0 : w1.cell? ⟨b, 0, none⟩ = some (.pointer (some ⟨b, 0, none⟩)) := by rw [Lib.cell_of_heap hbk]; rfl
  have c1 : w1.cell? ⟨b, 1, none⟩ = some v := by rw [Lib.cell_of_heap hbk]; rfl
  go_wp2_with (at_builtin; refine wpList_str_at rfl _ _ 85 9 rfl B 5 i0 Try.underlying85 Try.underlying9 hi hz0 hz1 hz2 _ _ _ rfl hown s rfl ?c3 ?c4 ?c5 ?_)
  case c3 => unfold maxLen; omega
  case c4 => omega
  case c5 => omega
  intro v' w2 hown' hgrow hloc
  have hlt : b < w1.heap.size := Nat.lt_of_lt_of_le hlt0 hsz
  have hb2 : w2.heap[b]? = some (.cells #[.pointer (some ⟨b, 0, none⟩), v] 87 (0, 0)) := by
    rw [hgrow.block b hlt (fun e => hvb e.symm)]
    exact hbk
  have d0 : w2.cell? ⟨b, 0, none⟩ = some (.pointer (some ⟨b, 0, none⟩)) := by rw [Lib.cell_of_heap hb2]; rfl
  have d1 : w2.cell? ⟨b, 1, none⟩ = some v := by rw [Lib.cell_of_heap hb2]; rfl
  have g1 : w2.frozen? ⟨b, 1, none⟩ = false := Lib.frozen_of_heap hb2 1
  have hat : ∃ ao m cap, v' = .slice ao m cap := by
    rcases hown'.2 with ⟨hv, _⟩ | ⟨g, cap, cur, hv, _⟩
    · exact ⟨_, _, _, hv⟩
    · exact ⟨_, _, _, hv⟩
  have HL := Lib.hid hloc
  have HO := Lib.hid hown'
  have HG := Lib.hid hgrow
  clear hloc hown' hgrow
  obtain ⟨ao, m, cap, rfl⟩ := hat
  go_wp2
  go_ret2
  have hown2 := HO.out
  have hput := Lib.BuilderAt.put (T := 87) (e := 5) (p := .pointer (some ⟨b, 0, none⟩)) hB1 hb2 (bs' := bs ++ Lib.strCells s) (by simpa [Lib.strCells_length] using hown2) (by decide)
  obtain ⟨_, v3, e3, o3, _⟩ := hput
  have hv3 : v3 = .slice ao m cap := by
    have : (w2.setCell ⟨b, 1, none⟩ (.slice ao m cap)).heap[b]? = some (.cells #[.pointer (some ⟨b, 0, none⟩), .slice ao m cap] 87 (0, 0)) := by simp [World.setCell, Array.getElem?_modify, hb2]
    rw [this] at e3
    cases e3; rfl
  subst hv3
  refine ⟨rfl, _, ⟨hB1, .inr e3, o3⟩, ?_, ?_⟩
  · rcases HL.out with h' | ⟨g, hg, hge⟩
    · exact .inl h'
    · exact .inr ⟨g, hg, Nat.le_trans hsz hge⟩
  · refine ⟨?_, ?_, ?_, ?_, ?_⟩
    · exact HG.out.os.trans hf1.os
    · exact HG.out.tape.trans hf1.tape
    · exact HG.out.output.trans hf1.output
    · have := HG.out.size; simp [World.setCell]; omega
    · intro k hk hkb hkr
      rw [show (w2.setCell ⟨b, 1, none⟩ (.slice ao m cap)).heap[k]? = w2.heap[k]? from Below.heap_setCell _ _ _ _ hkb, HG.out.block k (by omega) hkr, hf1.block k hk hkb (by simp)]
end Go.Proofs.Ytppoikhonlgcnaa
