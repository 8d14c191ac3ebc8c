/- Texts of one seat, merged. -/
import Derived.Test.YtdgcdekgleegbaaGreatS13
import Derived.Test.YtdgcdekgleegbaaGreatS02
import Derived.Test.YtdgcdekgleegbaaGreatS10
import Derived.Test.YtdgcdekgleegbaaGreatS03
import Derived.Deep.RegionWith
import Derived.Test.YtdgcdekgleegbaaGreatS05
set_option maxRecDepth 100000
set_option maxHeartbeats 4000000
set_option linter.unusedVariables false
/- Two builders side by side: WriteString on one leaves the other as it was; String with all that it turns. -/
namespace Go.Proofs.YtdgcdekgleegbaaGreat
open Go.RowKit
theorem run_str_at {P : Program} (w : World) (base : Nat) (t u ty e : TypeId) (i : TypeInfo) (ht : P.underlying t = some (.slice e)) (hu : P.underlying u = some .string) (hi : P.info? e = some i) (hz : i.zero = some (.int .u8 0))
    (hsize : i.size = 1) (hby : i.bytes = 1) (v : Value) (n : Nat) (xs : List Value) (hown : w.ownsRow base e 1 v n xs) (s : ByteArray)
    (h63 : n + s.size ≤ maxLen) (hbytes : n + s.size ≤ 140737488355328) (hbase : base ≤ w.heap.size) :
    ∃ v' w', (Builtin.append_ #[t, u] ty #[v, .string s]).run P w = .ok v' w' ∧ w'.ownsRow base e 1 v' (n + s.size) (xs ++ Lib.strCells s) ∧ w.grownBy w' v.ownBlock ∧
      (v'.ownBlock = v.ownBlock ∨ ∃ g, v'.ownBlock = some g ∧ w.heap.size ≤ g) := by
  obtain ⟨v', w', hr, ho, hg, _⟩ := Lib.run_append_own_string (P := P) w base t u ty e i ht hu hi hz hsize hby v n xs hown s h63 hbytes hbase
  refine ⟨v', w', hr, ho, hg, ?_⟩
  have hlen : xs.length = n := by simpa using hown.1
  rcases hown.2 with ⟨rfl, rfl⟩ | ⟨g, cap, cur, rfl, hbg, hgd, hnc, hcm, hcs, htake⟩
  · obtain rfl : xs = [] := List.eq_nil_of_length_eq_zero hlen
    obtain ⟨v2, w2, hr2, ho2, _, _⟩ := Lib.run_append_own_string (P := P) w w.heap.size t u ty e i ht hu hi hz hsize hby _ 0 [] (World.ownsRow_nil w w.heap.size e 1) s h63 hbytes (Nat.le_refl _)
    rw [hr] at hr2
    cases hr2
    rcases ho2.2 with ⟨rfl, _⟩ | ⟨g, cap, cur, rfl, hbg, _⟩
    · exact .inl rfl
    · exact .inr ⟨g, rfl, hbg⟩
  · by_cases hroom : n + s.size ≤ cap
    · have hr2 := Lib.run_append_room_string (P := P) w t u ty e i ht hu hi hsize g n cap cur hgd s hroom (by rw [hcs]; omega)
      rw [hr] at hr2
      cases hr2
      exact .inl rfl
    · have hr2 := Lib.run_append_grow_string (P := P) w t u ty e i (.int .u8 0) ht hu hi hz ⟨g, 0, none⟩ n cap xs (by rw [hsize]; omega) (hown.cells (g := g) rfl) s (by omega) (by unfold maxLen at h63; omega) (by rw [hby]; exact growslice_fits (by omega) (by omega))
      rw [hr] at hr2
      cases hr2
      exact .inr ⟨_, rfl, Nat.le_refl _⟩
theorem wpList_str_at {P : Program} {w : World} {ops : Array Oper} {rest : List Oper} {o : Oper} {a : Act} {Q : Exit → Act → World → Prop} (hgd : o.guard = none) (sl x : Operand) (t u : TypeId)
    (ho : o.op = .call { callee := .builtin .append, args := #[sl, x], argTypes := #[t, u] })
    (base : Nat) (e : TypeId) (i : TypeInfo) (ht : P.underlying t = some (.slice e)) (hu : P.underlying u = some .string) (hi : P.info? e = some i) (hz : i.zero = some (.int .u8 0))
    (hsize : i.size = 1) (hby : i.bytes = 1) (v : Value) (n : Nat) (xs : List Value) (hs : a.eval sl = v) (hown : w.ownsRow base e 1 v n xs) (s : ByteArray) (hx : a.eval x = .string s)
    (h63 : n + s.size ≤ maxLen) (hbytes : n + s.size ≤ 140737488355328) (hbase : base ≤ w.heap.size)
    (h : ∀ v' w', w'.ownsRow base e 1 v' (n + s.size) (xs ++ Lib.strCells s) → w.grownBy w' v.ownBlock → (v'.ownBlock = v.ownBlock ∨ ∃ g, v'.ownBlock = some g ∧ w.heap.size ≤ g) → wpList P ops Q rest (a.put o.dst v') w') : wpList P ops Q (o :: rest) a w := by
  obtain ⟨v', w', hr, h2, h3, h4⟩ := run_str_at (P := P) w base t u o.type e i ht hu hi hz hsize hby v n xs hown s h63 hbytes hbase
  refine wpList_plain hgd fun K hK => ?_
  have := hK _ _ (h v' w' h2 h3 h4)
  unfold Oper.wp execOp
  simp only [ho, resolve, invoke, builtin, Sem.run_bind, Sem.run_pure, Result.andThen_ok, List.map_toArray, List.map_cons, List.map_nil, hs, hx, hr]
  exact this
/-- A builder at block b whose buffer is v and whose bytes are bs. -/
def Bld (w : World) (B b : Nat) (v : Value) (bs : List Value) : Prop :=
  B ≤ b ∧ (w.heap[b]? = some (.cells #[.pointer none, v] 155 (0, 0)) ∨ w.heap[b]? = some (.cells #[.pointer (some ⟨b, 0, none⟩), v] 155 (0, 0))) ∧ w.ownsRow B 5 1 v bs.length bs
theorem Bld.is {w : World} {B b : Nat} {v : Value} {bs : List Value} (h : Bld w B b v bs) : Lib.IsBuilder 155 5 B b bs w := by
  obtain ⟨h1, h2, h3⟩ := h
  rcases h2 with h2 | h2
  · exact .inl ⟨h1, v, h2, h3, Lib.ownBlock_ne h3 h2 (by decide)⟩
  · exact .inr ⟨h1, v, h2, h3, Lib.ownBlock_ne h3 h2 (by decide)⟩
theorem Bld.lt {w : World} {B b : Nat} {v : Value} {bs : List Value} (h : Bld w B b v bs) : b < w.heap.size := by
  rcases Nat.lt_or_ge b w.heap.size with h' | h'
  · exact h'
  · rcases h.2.1 with h2 | h2 <;> rw [Array.getElem?_eq_none h'] at h2 <;> cases h2
theorem Bld.ne {w : World} {B b c : Nat} {v u : Value} {bs cs : List Value} (h : Bld w B b v bs) (k : Bld w B c u cs) : v.ownBlock ≠ some c := by
  rcases k.2.1 with h2 | h2 <;> exact Lib.ownBlock_ne h.2.2 h2 (by decide)
theorem Bld.row_lt {w : World} {B b : Nat} {v : Value} {bs : List Value} (h : Bld w B b v bs) {g : Nat} (hg : v.ownBlock = some g) : g < w.heap.size := by
  rcases h.2.2.2 with ⟨rfl, _⟩ | ⟨g', cap, cur, rfl, _, hgd, _⟩
  · cases hg
  · simp only [Value.ownBlock, Option.some.injEq] at hg
    subst hg
    rcases Nat.lt_or_ge g' w.heap.size with h' | h'
    · exact h'
    · rw [Array.getElem?_eq_none h'] at hgd; cases hgd
/-- What WriteString on the builder at b, with the buffer in row, leaves as it was. -/
structure Fr (b : Nat) (row : Option Nat) (w w' : World) : Prop where
  os : w'.os = w.os
  tape : w'.tape = w.tape
  output : w'.output = w.output
  size : w.heap.size ≤ w'.heap.size
  block : ∀ k, k < w.heap.size → k ≠ b → some k ≠ row → w'.heap[k]? = w.heap[k]?
theorem Fr.below {b B : Nat} {v : Value} {bs : List Value} {w w' : World} (h : Fr b v.ownBlock w w') (k : Bld w B b v bs) : Below B w w' := by
  refine ⟨h.os, h.tape, h.output, h.size, fun j hj => h.block j (Nat.lt_trans (Nat.lt_of_lt_of_le hj k.1) k.lt) (by have := k.1; omega) ?_⟩
  intro he
  rcases k.2.2.2 with ⟨rfl, _⟩ | ⟨g', cap, cur, rfl, hb, _⟩
  · cases he
  · simp only [Value.ownBlock, Option.some.injEq] at he
    omega
theorem Bld.other {w w' : World} {B b c : Nat} {v u : Value} {bs cs : List Value} (h : Bld w B b v bs) (k : Bld w B c u cs) (hne : c ≠ b) (hd : u.ownBlock = none ∨ u.ownBlock ≠ v.ownBlock) (f : Fr b v.ownBlock w w') : Bld w' B c u cs := by
  have hc : w'.heap[c]? = w.heap[c]? := f.block c k.lt hne (fun e => h.ne k e.symm)
  refine ⟨k.1, by rw [hc]; exact k.2.1, k.2.2.1, ?_⟩
  rcases k.2.2.2 with h1 | ⟨g, cap, cur, rfl, hb, hgd, rest⟩
  · exact .inl h1
  · refine .inr ⟨g, cap, cur, rfl, hb, ?_, rest⟩
    rw [f.block g (k.row_lt rfl) (fun e => (k.ne h) (by rw [e]; rfl)) (fun e => by
      rcases hd with hd | hd
      · cases hd
      · exact hd e), hgd]
theorem Bld.used {w : World} {B b : Nat} {v : Value} {bs : List Value} (h : Bld w B b v bs) :
    Calls Tryz.prog 138 #[.pointer (some ⟨b, 0, none⟩)] w fun e w' => e = .returned (.tuple #[]) ∧ w'.heap[b]? = some (.cells #[.pointer (some ⟨b, 0, none⟩), v] 155 (0, 0)) ∧ w'.ownsRow B 5 1 v bs.length bs ∧ Fr b none w w' := by
  have hne := h.ne h
  obtain ⟨h1, h2, h3⟩ := h
  rcases h2 with h2 | h2
  · have hB : Lib.BuilderAt 155 5 B b (.pointer none) bs w := ⟨h1, v, h2, h3, hne⟩
    refine (copyCheck_fresh b w hB.cell0 hB.shape hB.frozen0).mono ?_
    rintro e w' ⟨rfl, rfl⟩
    refine ⟨rfl, by simp [World.setCell, Array.getElem?_modify, h2], ?_, ⟨rfl, rfl, rfl, by simp [World.setCell], fun k _ hk _ => Below.heap_setCell _ _ _ _ hk⟩⟩
    exact h3.kept (row := some b) ⟨rfl, rfl, rfl, by simp [World.setCell], fun k _ hk => Below.heap_setCell _ _ _ _ (fun e => hk (by simp [e]))⟩ (.inr hne)
  · have hB : Lib.BuilderAt 155 5 B b (.pointer (some ⟨b, 0, none⟩)) bs w := ⟨h1, v, h2, h3, hne⟩
    refine (copyCheck_used b w hB.cell0).mono ?_
    rintro e w' ⟨rfl, rfl⟩
    exact ⟨rfl, h2, h3, ⟨rfl, rfl, rfl, Nat.le_refl _, fun _ _ _ _ => rfl⟩⟩
/-- What WriteString leaves. -/
def Wrote (B b : Nat) (v : Value) (bs : List Value) (w : World) (w' : World) : Prop :=
  ∃ v', Bld w' B b v' bs ∧ (v'.ownBlock = v.ownBlock ∨ ∃ g, v'.ownBlock = some g ∧ w.heap.size ≤ g) ∧ Fr b v.ownBlock w w'
set_option maxHeartbeats 1000000 in
set_option maxRecDepth 100000 in
theorem write_at (B b : Nat) (v : Value) (bs : List Value) (s : ByteArray) (w : World) (h : Bld w B b v bs) (hlen : bs.length + s.size ≤ 140737488355328) :
    Calls Tryz.prog 92 #[.pointer (some ⟨b, 0, none⟩), .string s] w fun e w' => e = .returned (.tuple #[.int .i64 s.size, .nilIface]) ∧ Wrote B b v (bs ++ Lib.strCells s) w w' := by
  obtain ⟨i0, hi, hz0, hz1, hz2⟩ := info_parts infoByte
  have hB1 := h.1
  have hlt0 := h.lt
  have hvb := h.ne h
  go_enter Tryz.func92, Tryz.ntmps92
  go_wp2_with (go_at_call 138; refine (h.used).mono ?_)
  rintro e w1 ⟨rfl, hbk, hown, hf1⟩
  have hsz := hf1.size
  have c0 : w1.cell? ⟨b, 0, none⟩ = some (.pointer (some ⟨b, 0, none⟩)) := by rw [Lib.cell_of_heap hbk]; rfl
  have c1 : w1.cell? ⟨b, 1, none⟩ = some v := by rw [Lib.cell_of_heap hbk]; rfl
  go_wp2_with (at_builtin; refine wpList_str_at rfl _ _ 130 9 rfl B 5 i0 Tryz.underlying130 Tryz.underlying9 hi hz0 hz1 hz2 _ _ _ rfl hown s rfl ?c3 ?c4 ?c5 ?_)
  case c3 => unfold maxLen; omega
  case c4 => omega
  case c5 => omega
  intro v' w2 hown' hgrow hloc
  have hlt : b < w1.heap.size := Nat.lt_of_lt_of_le hlt0 hsz
  have hb2 : w2.heap[b]? = some (.cells #[.pointer (some ⟨b, 0, none⟩), v] 155 (0, 0)) := by
    rw [hgrow.block b hlt (fun e => hvb e.symm)]
    exact hbk
  have d0 : w2.cell? ⟨b, 0, none⟩ = some (.pointer (some ⟨b, 0, none⟩)) := by rw [Lib.cell_of_heap hb2]; rfl
  have d1 : w2.cell? ⟨b, 1, none⟩ = some v := by rw [Lib.cell_of_heap hb2]; rfl
  have g1 : w2.frozen? ⟨b, 1, none⟩ = false := Lib.frozen_of_heap hb2 1
  have hat : ∃ ao m cap, v' = .slice ao m cap := by
    rcases hown'.2 with ⟨hv, _⟩ | ⟨g, cap, cur, hv, _⟩
    · exact ⟨_, _, _, hv⟩
    · exact ⟨_, _, _, hv⟩
  have HL := Lib.hid hloc
  have HO := Lib.hid hown'
  have HG := Lib.hid hgrow
  clear hloc hown' hgrow
  obtain ⟨ao, m, cap, rfl⟩ := hat
  go_wp2
  go_ret2
  have hown2 := HO.out
  have hput := Lib.BuilderAt.put (T := 155) (e := 5) (p := .pointer (some ⟨b, 0, none⟩)) hB1 hb2 (bs' := bs ++ Lib.strCells s) (by simpa [Lib.strCells_length] using hown2) (by decide)
  obtain ⟨_, v3, e3, o3, _⟩ := hput
  have hv3 : v3 = .slice ao m cap := by
    have : (w2.setCell ⟨b, 1, none⟩ (.slice ao m cap)).heap[b]? = some (.cells #[.pointer (some ⟨b, 0, none⟩), .slice ao m cap] 155 (0, 0)) := by simp [World.setCell, Array.getElem?_modify, hb2]
    rw [this] at e3
    cases e3; rfl
  subst hv3
  refine ⟨rfl, _, ⟨hB1, .inr e3, o3⟩, ?_, ?_⟩
  · rcases HL.out with h' | ⟨g, hg, hge⟩
    · exact .inl h'
    · exact .inr ⟨g, hg, Nat.le_trans hsz hge⟩
  · refine ⟨?_, ?_, ?_, ?_, ?_⟩
    · exact HG.out.os.trans hf1.os
    · exact HG.out.tape.trans hf1.tape
    · exact HG.out.output.trans hf1.output
    · have := HG.out.size; simp [World.setCell]; omega
    · intro k hk hkb hkr
      rw [show (w2.setCell ⟨b, 1, none⟩ (.slice ao m cap)).heap[k]? = w2.heap[k]? from Below.heap_setCell _ _ _ _ hkb, HG.out.block k (by omega) hkr, hf1.block k hk hkb (by simp)]
end Go.Proofs.YtdgcdekgleegbaaGreat
/- String of one of two builders, with all that it turns; the two builders together. -/
namespace Go.Proofs.YtdgcdekgleegbaaGreat
open Go.RowKit
theorem fr_drew {b : Nat} {row : Option Nat} (w : World) : Fr b row w w.drew := ⟨rfl, rfl, rfl, Nat.le_refl _, fun _ _ _ _ => rfl⟩
theorem fr_freeze {b g n : Nat} (w : World) : Fr b (some g) w (w.drew.freeze ⟨g, 0, none⟩ n) := by
  have h := Lib.below_freeze (Below.drew (Below.refl g w)) (p := ⟨g, 0, none⟩) (Nat.le_refl g) n
  refine ⟨h.os, h.tape, h.output, h.size, fun k _ _ hk => ?_⟩
  have hne : g ≠ k := fun e => hk (by rw [e])
  show (w.drew.freeze ⟨g, 0, none⟩ n).heap[k]? = _
  unfold World.freeze
  split
  · rfl
  · show (Array.modify _ g _)[k]? = _
    rw [Array.getElem?_modify, if_neg hne]; rfl
set_option maxHeartbeats 1000000 in
set_option maxRecDepth 100000 in
theorem string_some (B b : Nat) (v : Value) (l : List UInt8) (w : World) (h : Bld w B b v (Lib.byteCells l)) (h0 : l ≠ []) :
    Calls Tryz.prog 97 #[.pointer (some ⟨b, 0, none⟩)] w fun e w' => e = .returned (.string (str l)) ∧ Fr b v.ownBlock w w' := by
  obtain ⟨hB, hbk0, hown⟩ := h
  obtain ⟨p, hbk⟩ : ∃ p, w.heap[b]? = some (.cells #[p, v] 155 (0, 0)) := by
    rcases hbk0 with hb | hb
    · exact ⟨_, hb⟩
    · exact ⟨_, hb⟩
  have hl0 : l.length ≠ 0 := by simpa using h0
  rw [Lib.byteCells_length] at hown
  obtain ⟨g, cap, cur, rfl, hbg, hg, hnc, hcm, hcs, htake⟩ : ∃ g cap cur, v = .slice (some ⟨g, 0, none⟩) l.length cap ∧ B ≤ g ∧ w.heap[g]? = some (.cells cur 5 (0, 0)) ∧ l.length ≤ cap ∧ cap ≤ maxLen ∧ cur.size = cap * 1 ∧ cur.toList.take (l.length * 1) = Lib.byteCells l := by
    rcases hown.2 with ⟨_, hz⟩ | ⟨g, cap, cur, hv, r⟩
    · exact absurd hz hl0
    · exact ⟨g, cap, cur, hv, r⟩
  have c1 : w.drew.cell? ⟨b, 1, none⟩ = some (.slice (some ⟨g, 0, none⟩) l.length cap) := by
    have : w.drew.heap[b]? = some (.cells #[p, .slice (some ⟨g, 0, none⟩) l.length cap] 155 (0, 0)) := hbk
    rw [Lib.cell_of_heap this]; rfl
  have hSD : (Builtin.unsafeSliceData_ #[130] 202 #[.slice (some ⟨g, 0, none⟩) l.length cap]).run Tryz.prog w.drew = .ok (.pointer (some ⟨g, 0, none⟩)) w.drew :=
    Lib.run_unsafeSliceData_row _ _ _ _ _ _ (by omega)
  have hUS : (Builtin.unsafeString_ #[202, 3] 9 #[.pointer (some ⟨g, 0, none⟩), .int .i64 l.length]).run Tryz.prog w.drew = .ok (.string (str l)) (w.drew.freeze ⟨g, 0, none⟩ l.length) := by
    refine Lib.run_unsafeString_row w.drew 202 3 9 5 Tryz.underlying202 (Tryz.Builder_Extra_169.cellsByte) g cur.size (by have hg' : w.drew.heap[g]? = some (.cells cur 5 (0, 0)) := hg; simp [World.shape?, hg']) l h0 (by omega) (by unfold maxLen at hcm; omega) ?_
    intro j x hx
    exact hown.cells (g := g) rfl j (.int .u8 x.toNat) (by simp [Lib.byteCells, hx])
  have hfr : Hid (Fr b (some g) w (w.drew.freeze ⟨g, 0, none⟩ l.length)) := fr_freeze w
  go_enter Tryz.func97, Tryz.ntmps97
  go_wp2
  go_region
  all_goals (go_wp2; go_ret; exact ⟨rfl, hfr.out⟩)
set_option maxHeartbeats 1000000 in
set_option maxRecDepth 100000 in
theorem string_none (B b : Nat) (w : World) (h : Bld w B b (.slice none 0 0) []) :
    Calls Tryz.prog 97 #[.pointer (some ⟨b, 0, none⟩)] w fun e w' => e = .returned (.string (str [])) ∧ Fr b none w w' := by
  obtain ⟨hB, hbk0, hown⟩ := h
  obtain ⟨p, hbk⟩ : ∃ p, w.heap[b]? = some (.cells #[p, .slice none 0 0] 155 (0, 0)) := by
    rcases hbk0 with hb | hb
    · exact ⟨_, hb⟩
    · exact ⟨_, hb⟩
  have hUS : ∀ (w : World), (Builtin.unsafeString_ #[202, 3] 9 #[.pointer none, .int .i64 0]).run Tryz.prog w = .ok (.string ⟨#[]⟩) w := fun w => by kernel_rfl
  have c1 : w.drew.cell? ⟨b, 1, none⟩ = some (.slice none 0 0) := by
    have : w.drew.heap[b]? = some (.cells #[p, .slice none 0 0] 155 (0, 0)) := hbk
    rw [Lib.cell_of_heap this]; rfl
  have hSD : (Builtin.unsafeSliceData_ #[130] 202 #[.slice none 0 0]).run Tryz.prog w.drew = .ok (.pointer none) w.drew := rfl
  go_enter Tryz.func97, Tryz.ntmps97
  go_wp2
  go_region
  all_goals (go_wp2; go_ret; exact ⟨rfl, fr_drew w⟩)
end Go.Proofs.YtdgcdekgleegbaaGreat
/- Two builders together: what each call on one of them leaves. -/
namespace Go.Proofs.YtdgcdekgleegbaaGreat
open Go.RowKit
def Apart (v u : Value) : Prop := ∀ g, v.ownBlock = some g → u.ownBlock ≠ some g
theorem Apart.symm {v u : Value} (h : Apart v u) : Apart u v := fun g hg hv => h g hv hg
theorem Apart.side {v u : Value} (h : Apart v u) : u.ownBlock = none ∨ u.ownBlock ≠ v.ownBlock := by
  rcases hu : u.ownBlock with _ | g
  · exact .inl rfl
  · exact .inr fun e => h g e.symm hu
def Duo (w : World) (B p q : Nat) (bs cs : List Value) : Prop :=
  p ≠ q ∧ ∃ v u, Bld w B p v bs ∧ Bld w B q u cs ∧ Apart v u ∧ (bs = [] → v = .slice none 0 0) ∧ (cs = [] → u = .slice none 0 0)
theorem Duo.symm {w : World} {B p q : Nat} {bs cs : List Value} (h : Duo w B p q bs cs) : Duo w B q p cs bs := by
  obtain ⟨h0, v, u, h1, h2, h3, h4, h5⟩ := h
  exact ⟨fun e => h0 e.symm, u, v, h2, h1, h3.symm, h5, h4⟩
theorem Bld.below {w w' : World} {B b : Nat} {v : Value} {bs : List Value} (h : Bld w B b v bs) (hb : Below w.heap.size w w') : Bld w' B b v bs :=
  ⟨h.1, by rw [hb.block b h.lt]; exact h.2.1, own_below h.2.2 hb (Nat.le_refl _)⟩
theorem Duo.below {w w' : World} {B p q : Nat} {bs cs : List Value} (h : Duo w B p q bs cs) (hb : Below w.heap.size w w') : Duo w' B p q bs cs := by
  obtain ⟨h0, v, u, h1, h2, rest⟩ := h
  exact ⟨h0, v, u, h1.below hb, h2.below hb, rest⟩
theorem Duo.lt {w : World} {B p q : Nat} {bs cs : List Value} (h : Duo w B p q bs cs) : B < w.heap.size := by
  obtain ⟨h0, v, u, h1, h2, rest⟩ := h
  exact Nat.lt_of_le_of_lt h1.1 h1.lt
theorem Duo.new (w : World) (B : Nat) (hB : B ≤ w.heap.size) :
    Duo ((w.alloc (.cells #[.pointer none, .slice none 0 0] 155)).alloc (.cells #[.pointer none, .slice none 0 0] 155)) B w.heap.size (w.heap.size + 1) [] [] := by
  refine ⟨by omega, .slice none 0 0, .slice none 0 0, ⟨hB, .inl ?_, World.ownsRow_nil _ _ _ _⟩, ⟨by omega, .inl ?_, World.ownsRow_nil _ _ _ _⟩, (show Apart _ _ from (fun _ h => by cases h)), fun _ => rfl, fun _ => rfl⟩
  · show ((w.heap.push _).push _)[w.heap.size]? = _
    simp [Array.getElem?_push]
  · show ((w.heap.push _).push _)[w.heap.size + 1]? = _
    rw [Array.getElem?_push, if_pos (by simp)]
/-- What is neither a builder nor a row of bytes stays. -/
def Keeps (w w' : World) : Prop := ∀ (k : Nat) (cs : Array Value) (T : TypeId), T ≠ 155 → T ≠ 5 → w.heap[k]? = some (Obj.cells cs T (0, 0)) → w'.heap[k]? = some (Obj.cells cs T (0, 0))
theorem Fr.keeps {B b : Nat} {v : Value} {bs : List Value} {w w' : World} (f : Fr b v.ownBlock w w') (h : Bld w B b v bs) : Keeps w w' := by
  intro k cs T h1 h2 hk
  have hlt : k < w.heap.size := by
    rcases Nat.lt_or_ge k w.heap.size with h' | h'
    · exact h'
    · rw [Array.getElem?_eq_none h'] at hk; cases hk
  rw [f.block k hlt ?_ ?_, hk]
  · rintro rfl
    rcases h.2.1 with h3 | h3 <;> rw [hk] at h3 <;> cases h3 <;> exact h1 rfl
  · intro he
    rcases h.2.2.2 with ⟨rfl, _⟩ | ⟨g, cap, cur, rfl, _, hg, _⟩
    · cases he
    · simp only [Value.ownBlock, Option.some.injEq] at he
      subst he
      rw [hk] at hg; cases hg; exact h2 rfl
theorem Keeps.cell {w w' : World} (h : Keeps w w') {k : Nat} {cs : Array Value} {T : TypeId} (h1 : T ≠ 155) (h2 : T ≠ 5) (hk : w.heap[k]? = some (.cells cs T (0, 0))) (j : Nat) (x : Value) (hx : cs[j]? = some x) : w'.cell? ⟨k, j, none⟩ = some x := by
  rw [Lib.cell_of_heap (h k cs T h1 h2 hk), hx]
theorem Duo.write {w : World} {B p q : Nat} {bs cs : List Value} (h : Duo w B p q bs cs) (s : ByteArray) (hs : s.size ≠ 0) (hlen : bs.length + s.size ≤ 140737488355328) :
    Calls Tryz.prog 92 #[.pointer (some ⟨p, 0, none⟩), .string s] w fun e w' => e = .returned (.tuple #[.int .i64 s.size, .nilIface]) ∧ Duo w' B p q (bs ++ Lib.strCells s) cs ∧ Below B w w' ∧ Keeps w w' := by
  obtain ⟨h0, v, u, h1, h2, h3, h4, h5⟩ := h
  refine (write_at B p v bs s w h1 hlen).mono ?_
  rintro e w' ⟨rfl, v', k1, k2, k3⟩
  refine ⟨rfl, ⟨h0, v', u, k1, h1.other h2 (fun e => h0 e.symm) h3.side k3, ?_, ?_, h5⟩, k3.below h1, k3.keeps h1⟩
  · intro g hg hu
    rcases k2 with k2 | ⟨g', k2, k2'⟩
    · exact h3 g (k2 ▸ hg) hu
    · have := h2.row_lt hu
      rw [k2] at hg
      cases hg
      omega
  · intro hnil
    have hx := congrArg List.length hnil
    rw [List.length_append, Lib.strCells_length] at hx
    have h9 : ([] : List Value).length = 0 := rfl
    omega
theorem Duo.write2 {w : World} {B p q : Nat} {bs cs : List Value} (h : Duo w B p q bs cs) (s : ByteArray) (hs : s.size ≠ 0) (hlen : cs.length + s.size ≤ 140737488355328) :
    Calls Tryz.prog 92 #[.pointer (some ⟨q, 0, none⟩), .string s] w fun e w' => e = .returned (.tuple #[.int .i64 s.size, .nilIface]) ∧ Duo w' B p q bs (cs ++ Lib.strCells s) ∧ Below B w w' ∧ Keeps w w' :=
  (h.symm.write s hs hlen).mono fun _ _ ⟨h1, h2, h3⟩ => ⟨h1, h2.symm, h3⟩
theorem Duo.len2 {w : World} {B p q : Nat} {bs : List Value} {l : List UInt8} (h : Duo w B p q bs (Lib.byteCells l)) :
    Calls Tryz.prog 94 #[.pointer (some ⟨q, 0, none⟩)] w fun e w' => e = .returned (.int .i64 l.length) ∧ w = w' := by
  obtain ⟨h0, v, u, h1, h2, h3, h4, h5⟩ := h
  have := Tryz.Builder_Len B q (Lib.byteCells l) w h2.is
  rw [Lib.byteCells_length] at this
  exact this.mono fun _ _ ⟨k1, k2⟩ => ⟨k1, k2.symm⟩
theorem Duo.string {w : World} {B p q : Nat} {cs : List Value} {l : List UInt8} (h : Duo w B p q (Lib.byteCells l) cs) :
    Calls Tryz.prog 97 #[.pointer (some ⟨p, 0, none⟩)] w fun e w' => e = .returned (.string (str l)) ∧ (∃ u, Bld w' B q u cs) ∧ Below B w w' := by
  obtain ⟨h0, v, u, h1, h2, h3, h4, h5⟩ := h
  cases l with
  | nil =>
    obtain rfl := h4 rfl
    refine (string_none B p w h1).mono ?_
    rintro e w' ⟨rfl, k⟩
    have k' : Fr p (Value.slice none 0 0).ownBlock w w' := k
    exact ⟨rfl, ⟨u, h1.other h2 (fun e => h0 e.symm) h3.side k'⟩, k'.below h1⟩
  | cons c l =>
    refine (string_some B p v (c :: l) w h1 (by simp)).mono ?_
    rintro e w' ⟨rfl, k⟩
    exact ⟨rfl, ⟨u, h1.other h2 (fun e => h0 e.symm) h3.side k⟩, k.below h1⟩
theorem string_last {w : World} {B q : Nat} {l : List UInt8} (h : ∃ u, Bld w B q u (Lib.byteCells l)) :
    Calls Tryz.prog 97 #[.pointer (some ⟨q, 0, none⟩)] w fun e w' => e = .returned (.string (str l)) ∧ Below B w w' := by
  obtain ⟨u, h⟩ := h
  exact Tryz.Builder_String_any B q l w h.is (Nat.le_of_lt (Nat.lt_of_le_of_lt h.1 h.lt))
end Go.Proofs.YtdgcdekgleegbaaGreat
/- The contract of Body, at a leaf's cells. -/

namespace Go.Proofs.YtdgcdekgleegbaaGreat
open Go.RowKit
open Sl (Cl Kd)
theorem strCells_str (l : List UInt8) : Lib.strCells (str l) = Lib.byteCells l := rfl
theorem byteCells_app (l m : List UInt8) : Lib.byteCells l ++ Lib.byteCells m = Lib.byteCells (l ++ m) := by simp [Lib.byteCells]
theorem byteCells_len (l : List UInt8) : (Lib.byteCells l).length = l.length := by simp [Lib.byteCells]

theorem elemHC {w : World} {k : Nat} {y0 y1 y2 y3 : Value} {T : TypeId} (h : w.heap[k]? = some (.cells #[y0, y1, y2, y3] T (0, 0))) : w.cell? ⟨k, 0, none⟩ = some y0 ∧ w.cell? ⟨k, 1, none⟩ = some y1 ∧ w.cell? ⟨k, 2, none⟩ = some y2 ∧ w.cell? ⟨k, 3, none⟩ = some y3 :=
  ⟨(Lib.cell_of_heap h 0).trans rfl, (Lib.cell_of_heap h 1).trans rfl, (Lib.cell_of_heap h 2).trans rfl, (Lib.cell_of_heap h 3).trans rfl⟩
theorem World.block_lt_of_heap {w : World} {k : Nat} {o : Obj} (h : w.heap[k]? = some o) : k < w.heap.size := by
  rcases Nat.lt_or_ge k w.heap.size with h' | h'
  · exact h'
  · rw [Array.getElem?_eq_none h'] at h; cases h
set_option maxHeartbeats 4000000 in
set_option maxRecDepth 100000 in
theorem bodyC_any (v : Value) (l : List Cl) (hll : l.length ≤ 100000) (hl : ∀ x ∈ l, okC x) (w : World) (hv : SlC w v l) :
    Calls Tryz.prog 56 #[shpC, v] w fun e w' => e = .returned (.tuple #[.string (str (Sl.bodyR Sl.shC l).1), .int .i64 (Sl.bodyR Sl.shC l).2]) ∧ Below w.heap.size w w' := by
  have HL := Lib.hid hl
  have HB0 := Lib.hid (BxC.new w)
  have HW0 : Hid (Below w.heap.size w (w.alloc (.cells #[.func (.func 84) #[] #[], .func (.func 85) #[] #[], .func (.func 86) #[] #[], .func (.func 87) #[] #[]] 117))) := (Below.refl _ _).alloc (Nat.le_refl _) _
  have HWh := Lib.hid (fun W => wholeC_any W)
  have HMa := Lib.hid (fun W (hW : SlC W v l) => mayC_any v l hll W hW)
  have HSu := Lib.hid (fun W (hW : SlC W v l) => sumC_any v l hll hl W hW)
  have HV := Lib.hid hv
  have HVB : Hid (∀ W, Below w.heap.size w W → SlC W v l) := fun W hW => hv.below hW
  obtain ⟨a, b, o, c, rfl, ha, hx⟩ := hv
  have HX := Lib.hid hx
  have HA := Lib.hid ha
  clear hl ha hx
  unfold shpC at HWh HMa HSu ⊢
  have hlen : (l.length : Int) ≤ 100000 := by omega
  by_cases hr : Sl.right Sl.shC l = 0
  · by_cases hs : 4072 < Sl.sum Sl.shC l
    · rw [Sl.bodyR_full Sl.shC l hr hs]
      rw [hr] at HMa
      clear hr
      revert HMa HSu hs
      generalize Sl.sum Sl.shC l = m
      intro HMa HSu hs
      have hs' : (4072 : Int) < m := by omega
      go_enter Tryz.func56, Tryz.ntmps56
      go_wp2_with (first
        | (go_at_call 89; refine (HWh.out _).mono ?_; rintro e w1 ⟨rfl, hb1⟩; have HB1 := Lib.hid (below_step HW0.out hb1); have HR1 := Lib.hid (HB0.out.below hb1 HB0.out.lt); have q0 := HR1.out.c0; have q1 := HR1.out.c1; have q2 := HR1.out.c2; have q3 := HR1.out.c3)
        | (go_at_call 90; refine (HMa.out _ (HVB.out _ HB1.out)).mono ?_; rintro e w2 ⟨rfl, hb2⟩; have HB2 := Lib.hid (below_step HB1.out hb2); have HR2 := Lib.hid (HR1.out.below hb2 HR1.out.lt); have q0 := HR2.out.c0; have q1 := HR2.out.c1; have q2 := HR2.out.c2; have q3 := HR2.out.c3)
        | (go_at_call 91; refine (HSu.out _ (HVB.out _ HB2.out)).mono ?_; rintro e w3 ⟨rfl, hb3⟩; have HB3 := Lib.hid (below_step HB2.out hb3)))
      go_ret2
      exact ⟨rfl, HB3.out⟩
    · rw [Sl.bodyR_ok Sl.shC l hr hs]
      rw [hr] at HMa
      have HAT := Lib.hid (fun k => Sl.at_le Sl.shC l k (Nat.le_of_not_lt hs))
      have HBL : Hid (2 * l.length = (Sl.begins Sl.shC (2 * l.length) l).length) := (Sl.begins_len Sl.shC l _).symm
      have HBS : Hid (str (Sl.begins Sl.shC (2 * l.length) l) ++ str (l.flatMap Sl.shC.enc) = str (Sl.body Sl.shC l)) := by show _ = _; rw [str_append]; rfl
      clear hr
      revert HSu hs HBS
      generalize Sl.sum Sl.shC l = m
      generalize Sl.body Sl.shC l = res
      intro HSu hs HBS
      have hs' : ¬ (4072 : Int) < m := by omega
      go_enter Tryz.func56, Tryz.ntmps56
      go_wp2_with (first
        | (go_at_call 89; refine (HWh.out _).mono ?_; rintro e w1 ⟨rfl, hb1⟩; have HB1 := Lib.hid (below_step HW0.out hb1); have HR1 := Lib.hid (HB0.out.below hb1 HB0.out.lt); have q0 := HR1.out.c0; have q1 := HR1.out.c1; have q2 := HR1.out.c2; have q3 := HR1.out.c3)
        | (go_at_call 90; refine (HMa.out _ (HVB.out _ HB1.out)).mono ?_; rintro e w2 ⟨rfl, hb2⟩; have HB2 := Lib.hid (below_step HB1.out hb2); have HR2 := Lib.hid (HR1.out.below hb2 HR1.out.lt); have q0 := HR2.out.c0; have q1 := HR2.out.c1; have q2 := HR2.out.c2; have q3 := HR2.out.c3)
        | (go_at_call 91; refine (HSu.out _ (HVB.out _ HB2.out)).mono ?_; rintro e w3 ⟨rfl, hb3⟩; have HB3 := Lib.hid (below_step HB2.out hb3); have HR3 := Lib.hid (HR2.out.below hb3 HR2.out.lt)))
      clear q0 q1 q2 q3 hb1 hb2 hb3 hs hs'
      have HD4 := Lib.hid (Duo.new w3 w3.heap.size (Nat.le_refl _))
      have HB4 : Hid (Below w3.heap.size w3 ((w3.alloc (.cells #[.pointer none, .slice none 0 0] 155)).alloc (.cells #[.pointer none, .slice none 0 0] 155))) := ((Below.refl _ _).alloc (Nat.le_refl _) _).alloc (by simp) _
      have HR4 := Lib.hid ((HR3.out.alloc (.cells #[.pointer none, .slice none 0 0] 155)).alloc (.cells #[.pointer none, .slice none 0 0] 155))
      have HGP := Lib.hid HR3.out.lt
      revert HD4 HB4 HR4 HGP
      generalize ((w3.alloc (.cells #[.pointer none, .slice none 0 0] 155)).alloc (.cells #[.pointer none, .slice none 0 0] 155)) = w4
      generalize hp : w3.heap.size = p
      have HP := Lib.hid hp
      clear hp
      intro HD4 HB4 HR4 HGP
      have HW4 : Hid (Below w.heap.size w w4) := HB3.out.trans (HB4.out.mono (Nat.le_of_lt HGP.out))
      go_loopg [26] l.length (fun n i wr => ∃ k : Nat, k ≤ l.length ∧ n = l.length - k ∧ i = .int .i64 k ∧ Hid (Duo wr p p (p + 1) (Lib.byteCells (Sl.begins Sl.shC (2 * l.length) (l.take k))) (Lib.byteCells ((l.take k).flatMap Sl.shC.enc))) ∧ Hid (Below p w4 wr))
      case atStart => exact ⟨0, Nat.zero_le _, rfl, rfl, HD4.out, Below.refl _ _⟩
      case round =>
        obtain ⟨k, hk, rfl, rfl, HD, HB⟩ := hrel
        by_cases hlt : k < l.length
        · obtain ⟨x, hx⟩ := take_some l k hlt
          have HXL := Lib.hid (HL.out x (List.mem_of_getElem? hx))
          obtain ⟨e0, e1, e2, e3⟩ := HX.out k x hx
          have hblt : b < w.heap.size := World.block_lt_of_cell? _ _ e0
          have HWr := Lib.hid (HW4.out.trans (HB.out.mono (Nat.le_of_lt HGP.out)))
          have d0 := (HWr.out.cell (p := ⟨b, o + k * 4, none⟩) hblt).trans e0
          have d1 := (HWr.out.cell (p := ⟨b, o + k * 4 + 1, none⟩) hblt).trans e1
          have d2 := (HWr.out.cell (p := ⟨b, o + k * 4 + 2, none⟩) hblt).trans e2
          have d3 := (HWr.out.cell (p := ⟨b, o + k * 4 + 3, none⟩) hblt).trans e3
          have HR := Lib.hid (HR4.out.below HB.out HGP.out)
          obtain rfl : a = some ⟨b, o, none⟩ := by
            rcases HA.out with h | h
            · rw [h] at hlt; cases hlt
            · exact h
          have HDa := Lib.hid (HD.out.below ((Below.refl _ _).alloc (Nat.le_refl _) (.cells #[.string (str x.key), .string (str x.val), .int .u32 x.chain, .int .u32 x.long] 32)))
          have HSB := Lib.hid (Sl.begins_at Sl.shC l k x hx (2 * l.length))
          have HSF := Lib.hid (Sl.flat_at Sl.shC l k x hx)
          have hat := HAT.out k
          have HBY := Lib.hid (fun W => bytesC_ok x HXL.out W)
          have HCD := Lib.hid (fun W => codecC_any W)
          have hpos : 1 ≤ (Sl.shC.enc x).length := Sl.encC_pos x
          have hle : (Sl.shC.enc x).length ≤ 65794 := Sl.encC_len x
          have hbl : (Lib.byteCells (Sl.begins Sl.shC (2 * l.length) (l.take k))).length ≤ 200000 := by rw [byteCells_len, Sl.begins_len, List.length_take]; omega
          have hfl : (Lib.byteCells ((l.take k).flatMap Sl.shC.enc)).length ≤ 4072 := by rw [byteCells_len]; omega
          have HPL : Hid (p < wr.heap.size) := HD.out.lt
          clear e0 e1 e2 e3 hx
          revert HD HDa HSB HSF hat HBY hpos hle hbl hfl
          generalize Sl.begins Sl.shC (2 * l.length) (l.take k) = B0
          generalize hb1e : Sl.begins Sl.shC (2 * l.length) (l.take (k + 1)) = B1
          have HB1E := Lib.hid hb1e
          clear hb1e
          generalize (l.take k).flatMap Sl.shC.enc = F0
          generalize hf1e : (l.take (k + 1)).flatMap Sl.shC.enc = F1
          have HF1E := Lib.hid hf1e
          clear hf1e
          generalize Sl.shC.enc x = ex
          intro HD HDa HSB HSF hat HBY hpos hle hbl hfl
          unfold cdcC at HBY HCD
          unfold shpC at HCD
          unfold aggC at HBY
          have HBL2 := Lib.hid hbl
          have HFL2 := Lib.hid hfl
          have HPOS := Lib.hid hpos
          have HLE := Lib.hid hle
          clear hbl hfl hpos hle
          have hq : ∀ o1 : Obj, (wr.alloc o1).heap[wr.heap.size]? = some o1 := (fun (o1 : Obj) => by show (wr.heap.push o1)[wr.heap.size]? = _; simp)
          have HEL := Lib.hid (hq (.cells #[.string (str x.key), .string (str x.val), .int .u32 x.chain, .int .u32 x.long] 32))
          clear hq
          go_wp2_with (first
            | (go_at_call 94; refine (HDa.out.len2).mono ?_; rintro e w5 ⟨rfl, rfl⟩)
            | (go_at_call 93; refine (two_at _ (2 * l.length + F0.length) (by first | omega | (rw [IntKind.wrap_u16]; omega)) (by omega) _).mono ?_; rintro e w6 ⟨rfl, hb6⟩; have HD6 := Lib.hid (HDa.out.below hb6))
            | (go_at_call 92; refine (HD6.out.write (str (Oc.big 2 (2 * l.length + F0.length))) (by rw [big_size]; decide) (by rw [big_size]; have := HBL2.out; omega)).mono ?_; rintro e w7 ⟨rfl, hd7, hb7, hk7⟩))
          have HB7 : Hid (Below p w4 w7) := ((HB.out.alloc (Nat.le_of_lt HPL.out) _).trans (hb6.mono (by have := HPL.out; simp; omega))).trans hb7
          have HR7 := Lib.hid (HR4.out.below HB7.out HGP.out)
          have HE7 := Lib.hid (hk7 _ _ _ (by decide) (by decide) ((hb6.block wr.heap.size (by simp)).trans HEL.out))
          have HD7 := Lib.hid (hd7.below (Below.drew (Below.refl _ _)))
          have HL7 : Hid (wr.heap.size < w7.drew.heap.size) := World.block_lt_of_heap HE7.out
          obtain ⟨z0, z1, z2, z3⟩ := elemHC HE7.out
          have q0 := HR7.out.c0
          have q1 := HR7.out.c1
          have q2 := HR7.out.c2
          have q3 := HR7.out.c3
          clear hb6 hd7 hb7 hk7
          go_region_with (first
            | (go_at_call 95; refine (HCD.out _).mono ?_; rintro e w8 ⟨rfl, hb8⟩; have HE8 := Lib.hid ((hb8.block wr.heap.size HL7.out).trans HE7.out); have HD8 := Lib.hid (HD7.out.below hb8); obtain ⟨z00, z11, z22, z33⟩ := elemHC HE8.out)
            | (go_at_call 96; refine (HBY.out _).mono ?_; rintro e w9 ⟨rfl, hb9⟩; have HD9 := Lib.hid (HD8.out.below hb9))
            | (go_at_call 92; refine (HD9.out.write2 (str ex) (by rw [str_size]; have := HPOS.out; omega) (by rw [str_size]; have h1 := HLE.out; have h2 := HFL2.out; omega)).mono ?_; rintro e w10 ⟨rfl, hd10, hb10, hk10⟩))
          all_goals
            (have HB10 : Hid (Below p w4 w10) := (((HB7.out.drew).trans (hb8.mono (Nat.le_of_lt (Nat.lt_trans HPL.out HL7.out)))).trans (hb9.mono (Nat.le_trans (Nat.le_of_lt (Nat.lt_trans HPL.out HL7.out)) hb8.size))).trans hb10
             rw [strCells_str, strCells_str, byteCells_app, byteCells_app, ← HSB.out, ← HSF.out] at hd10
             have HD10 := Lib.hid hd10
             clear hd10 hb8 hb9 hb10 hk10
             go_wp2
             go_roundg (l.length - (k + 1))
             case measure => omega
             case rel => exact ⟨k + 1, by omega, rfl, by go_num, (by rw [HB1E.out, HF1E.out]; exact HD10), HB10⟩)
        · obtain rfl : k = l.length := by omega
          rw [List.take_length] at HD
          have hbl := Nat.le_of_eq HBL.out.symm
          have hfl := HAT.out l.length
          rw [List.take_length] at hfl
          revert HD hbl hfl HBS
          generalize Sl.begins Sl.shC (2 * l.length) l = B0
          generalize l.flatMap Sl.shC.enc = F0
          intro HBS HD hbl hfl
          have hz1 := str_size B0
          have hz2 := str_size F0
          have hf2 : F0.length ≤ 4072 := by omega
          go_wp2_with (first
            | (go_at_call 97; with_reducible refine (HD.out.string).mono ?_; rintro e w8 ⟨rfl, hu8, hb8⟩; have HU8 := Lib.hid hu8; clear hu8)
            | (go_at_call 97; with_reducible refine (string_last HU8.out).mono ?_; rintro e w9 ⟨rfl, hb9⟩))
          go_ret2
          exact ⟨by rw [← HBS.out]; rfl, ((HW4.out.trans (HB.out.mono (Nat.le_of_lt HGP.out))).trans (hb8.mono (Nat.le_of_lt HGP.out))).trans (hb9.mono (Nat.le_of_lt HGP.out))⟩
  · rw [Sl.bodyR_bad Sl.shC l hr]
    revert HMa hr
    generalize Sl.right Sl.shC l = m
    intro HMa hr
    have hd : (m != 0) = true := by rw [bne_iff_ne]; exact hr
    go_enter Tryz.func56, Tryz.ntmps56
    go_wp2_with (first
      | (go_at_call 89; refine (HWh.out _).mono ?_; rintro e w1 ⟨rfl, hb1⟩; have HB1 := Lib.hid (below_step HW0.out hb1); have HR1 := Lib.hid (HB0.out.below hb1 HB0.out.lt); have q0 := HR1.out.c0; have q1 := HR1.out.c1; have q2 := HR1.out.c2; have q3 := HR1.out.c3)
      | (go_at_call 90; refine (HMa.out _ (HVB.out _ HB1.out)).mono ?_; rintro e w2 ⟨rfl, hb2⟩; have HB2 := Lib.hid (below_step HB1.out hb2)))
    go_ret2
    exact ⟨rfl, HB2.out⟩
end Go.Proofs.YtdgcdekgleegbaaGreat
/- A row of cells stays as it was while a box of a node's is written. -/
namespace Go.Proofs.YtdgcdekgleegbaaGreat
open Go.RowKit
open Sl (Cl Kd Nd Rn)
def plainV : Value → Bool
  | .bool _ => true
  | .slice _ _ _ => true
  | _ => false
theorem cell_box3 {w : World} {g : Nat} {u0 u1 u2 : Value} (h0 : w.cell? ⟨g, 0, none⟩ = some u0) (h1 : w.cell? ⟨g, 1, none⟩ = some u1) (h2 : w.cell? ⟨g, 2, none⟩ = some u2) (p0 : plainV u0 = true) (p1 : plainV u1 = true) (p2 : plainV u2 = true) (x0 x1 x2 : Value) {b o : Nat} {y : Value} (hy : w.cell? ⟨b, o, none⟩ = some y) (py : plainV y = false) :
    (((w.setCell ⟨g, 0, none⟩ x0).setCell ⟨g, 1, none⟩ x1).setCell ⟨g, 2, none⟩ x2).cell? ⟨b, o, none⟩ = some y := by
  have n0 : (⟨b, o, none⟩ : Addr) ≠ ⟨g, 0, none⟩ := fun h => by rw [h, h0] at hy; injection hy with hy; rw [hy, py] at p0; cases p0
  have n1 : (⟨b, o, none⟩ : Addr) ≠ ⟨g, 1, none⟩ := fun h => by rw [h, h1] at hy; injection hy with hy; rw [hy, py] at p1; cases p1
  have n2 : (⟨b, o, none⟩ : Addr) ≠ ⟨g, 2, none⟩ := fun h => by rw [h, h2] at hy; injection hy with hy; rw [hy, py] at p2; cases p2
  rw [World.cell?_setCell_other _ _ _ _ (Ne.symm n2), World.cell?_setCell_other _ _ _ _ (Ne.symm n1), World.cell?_setCell_other _ _ _ _ (Ne.symm n0), hy]
theorem cell_box2 {w : World} {g : Nat} {u0 u1 : Value} (h0 : w.cell? ⟨g, 0, none⟩ = some u0) (h1 : w.cell? ⟨g, 1, none⟩ = some u1) (p0 : plainV u0 = true) (p1 : plainV u1 = true) (x0 x1 : Value) {b o : Nat} {y : Value} (hy : w.cell? ⟨b, o, none⟩ = some y) (py : plainV y = false) :
    ((w.setCell ⟨g, 0, none⟩ x0).setCell ⟨g, 1, none⟩ x1).cell? ⟨b, o, none⟩ = some y := by
  have n0 : (⟨b, o, none⟩ : Addr) ≠ ⟨g, 0, none⟩ := fun h => by rw [h, h0] at hy; injection hy with hy; rw [hy, py] at p0; cases p0
  have n1 : (⟨b, o, none⟩ : Addr) ≠ ⟨g, 1, none⟩ := fun h => by rw [h, h1] at hy; injection hy with hy; rw [hy, py] at p1; cases p1
  rw [World.cell?_setCell_other _ _ _ _ (Ne.symm n1), World.cell?_setCell_other _ _ _ _ (Ne.symm n0), hy]
theorem cell_set1 {w : World} {p : Addr} {u : Value} (h0 : w.cell? p = some u) (p0 : plainV u = true) (x : Value) {b o : Nat} {y : Value} (hy : w.cell? ⟨b, o, none⟩ = some y) (py : plainV y = false) :
    (w.setCell p x).cell? ⟨b, o, none⟩ = some y := by
  have n0 : (⟨b, o, none⟩ : Addr) ≠ p := fun h => by rw [h, h0] at hy; injection hy with hy; rw [hy, py] at p0; cases p0
  rw [World.cell?_setCell_other _ _ _ _ (Ne.symm n0), hy]
theorem SlC.box3 {w : World} {g : Nat} {u0 u1 u2 : Value} {v : Value} {l : List Cl} (h : SlC w v l) (h0 : w.cell? ⟨g, 0, none⟩ = some u0) (h1 : w.cell? ⟨g, 1, none⟩ = some u1) (h2 : w.cell? ⟨g, 2, none⟩ = some u2) (p0 : plainV u0 = true := by rfl) (p1 : plainV u1 = true := by rfl) (p2 : plainV u2 = true := by rfl) (x0 x1 x2 : Value) :
    SlC (((w.setCell ⟨g, 0, none⟩ x0).setCell ⟨g, 1, none⟩ x1).setCell ⟨g, 2, none⟩ x2) v l := by
  obtain ⟨a, b, o, c, hv, ha, hx⟩ := h
  refine ⟨a, b, o, c, hv, ha, fun j x hj => ?_⟩
  obtain ⟨e0, e1, e2, e3⟩ := hx j x hj
  exact ⟨cell_box3 h0 h1 h2 p0 p1 p2 _ _ _ e0 rfl, cell_box3 h0 h1 h2 p0 p1 p2 _ _ _ e1 rfl, cell_box3 h0 h1 h2 p0 p1 p2 _ _ _ e2 rfl, cell_box3 h0 h1 h2 p0 p1 p2 _ _ _ e3 rfl⟩
theorem SlK.box3 {w : World} {g : Nat} {u0 u1 u2 : Value} {v : Value} {l : List Kd} (h : SlK w v l) (h0 : w.cell? ⟨g, 0, none⟩ = some u0) (h1 : w.cell? ⟨g, 1, none⟩ = some u1) (h2 : w.cell? ⟨g, 2, none⟩ = some u2) (p0 : plainV u0 = true := by rfl) (p1 : plainV u1 = true := by rfl) (p2 : plainV u2 = true := by rfl) (x0 x1 x2 : Value) :
    SlK (((w.setCell ⟨g, 0, none⟩ x0).setCell ⟨g, 1, none⟩ x1).setCell ⟨g, 2, none⟩ x2) v l := by
  obtain ⟨a, b, o, c, hv, ha, hx⟩ := h
  refine ⟨a, b, o, c, hv, ha, fun j x hj => ?_⟩
  obtain ⟨e0, e1⟩ := hx j x hj
  exact ⟨cell_box3 h0 h1 h2 p0 p1 p2 _ _ _ e0 rfl, cell_box3 h0 h1 h2 p0 p1 p2 _ _ _ e1 rfl⟩
theorem SlC.box2 {w : World} {g : Nat} {u0 u1 : Value} {v : Value} {l : List Cl} (h : SlC w v l) (h0 : w.cell? ⟨g, 0, none⟩ = some u0) (h1 : w.cell? ⟨g, 1, none⟩ = some u1) (p0 : plainV u0 = true := by rfl) (p1 : plainV u1 = true := by rfl) (x0 x1 : Value) :
    SlC ((w.setCell ⟨g, 0, none⟩ x0).setCell ⟨g, 1, none⟩ x1) v l := by
  obtain ⟨a, b, o, c, hv, ha, hx⟩ := h
  refine ⟨a, b, o, c, hv, ha, fun j x hj => ?_⟩
  obtain ⟨e0, e1, e2, e3⟩ := hx j x hj
  exact ⟨cell_box2 h0 h1 p0 p1 _ _ e0 rfl, cell_box2 h0 h1 p0 p1 _ _ e1 rfl, cell_box2 h0 h1 p0 p1 _ _ e2 rfl, cell_box2 h0 h1 p0 p1 _ _ e3 rfl⟩
theorem SlC.set1 {w : World} {p : Addr} {u : Value} {v : Value} {l : List Cl} (h : SlC w v l) (h0 : w.cell? p = some u) (p0 : plainV u = true := by rfl) (x : Value) : SlC (w.setCell p x) v l := by
  obtain ⟨a, b, o, c, hv, ha, hx⟩ := h
  refine ⟨a, b, o, c, hv, ha, fun j y hj => ?_⟩
  obtain ⟨e0, e1, e2, e3⟩ := hx j y hj
  exact ⟨cell_set1 h0 p0 _ e0 rfl, cell_set1 h0 p0 _ e1 rfl, cell_set1 h0 p0 _ e2 rfl, cell_set1 h0 p0 _ e3 rfl⟩
end Go.Proofs.YtdgcdekgleegbaaGreat
