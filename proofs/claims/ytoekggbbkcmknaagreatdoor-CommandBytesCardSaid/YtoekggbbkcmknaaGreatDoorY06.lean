/- Texts of one seat, merged. -/
import Derived.Test.YtoekggbbkcmknaaGreatDoorY05
import Derived.Deep.LoopGhost
import Derived.Test.YtoekggbbkcmknaaGreatDoorY04
import Derived.Laws.OwnMore
import Derived.Deep.SlicePairs
set_option maxRecDepth 100000
set_option maxHeartbeats 4000000
set_option linter.unusedVariables false
/- Rows of pairs in memory; the contract of List. -/
namespace Go.Proofs.YtoekggbbkcmknaaGreatDoor
open Go.RowKit
def SlR (w : World) (v : Value) (l : List Pr) : Prop :=
  ∃ (a : Option Addr) (b o c : Nat), v = .slice a l.length c ∧ (l = [] ∨ a = some ⟨b, o, none⟩) ∧
    ∀ (j : Nat) p, l[j]? = some p → w.cell? ⟨b, o + j * 2, none⟩ = some (.int .u16 p.n) ∧ w.cell? ⟨b, o + j * 2 + 1, none⟩ = some (.string (str p.s))
theorem SlR.below {w w' : World} {v : Value} {l : List Pr} (h : SlR w v l) (hb : Below w.heap.size w w') : SlR w' v l := by
  obtain ⟨a, b, o, c, hv, ha, hx⟩ := h
  refine ⟨a, b, o, c, hv, ha, fun j p hj => ?_⟩
  obtain ⟨h0, h1⟩ := hx j p hj
  have hlt := World.block_lt_of_cell? _ _ h0
  exact ⟨(hb.cell (p := ⟨b, o + j * 2, none⟩) hlt).trans h0, (hb.cell (p := ⟨b, o + j * 2 + 1, none⟩) hlt).trans h1⟩
theorem builder_below {w w' : World} {B B' b : Nat} {bs : List Value} (h : Lib.IsBuilder 77 5 B b bs w) (hb : Below B' w w') (hB : w.heap.size ≤ B') : Lib.IsBuilder 77 5 B b bs w' := by
  have go : ∀ p, Lib.BuilderAt 77 5 B b p bs w → Lib.BuilderAt 77 5 B b p bs w' := by
    rintro p ⟨h1, v, h2, h3, h4⟩
    have hlt : b < w.heap.size := by
      rcases Nat.lt_or_ge b w.heap.size with h' | h'
      · exact h'
      · rw [Array.getElem?_eq_none h'] at h2; cases h2
    exact ⟨h1, v, by rw [hb.block b (by omega), h2], own_below h3 hb hB, h4⟩
  rcases h with h | h
  · exact .inl (go _ h)
  · exact .inr (go _ h)
theorem builder_new (w : World) : Lib.IsBuilder 77 5 w.heap.size w.heap.size [] (w.alloc (.cells #[.pointer none, .slice none 0 0] 77)) := by
  refine .inl ⟨Nat.le_refl _, .slice none 0 0, ?_, World.ownsRow_nil _ _ _ _, fun h => by cases h⟩
  show (w.heap.push _)[w.heap.size]? = _
  simp
theorem builder2 (w : World) (o1 : Obj) : Lib.IsBuilder 77 5 (w.heap.size + 1) (w.heap.size + 1) [] ((w.alloc o1).alloc (.cells #[.pointer none, .slice none 0 0] 77)) := by
  have := builder_new (w.alloc o1)
  rwa [show (w.alloc o1).heap.size = w.heap.size + 1 by simp] at this
theorem box2 (w : World) (a b : Value) (T U : TypeId) (o : Obj) : ((w.alloc (.cells #[a, b] T)).alloc o).cell? ⟨w.heap.size, 0, none⟩ = some a ∧ ((w.alloc (.cells #[a, b] T)).alloc o).cell? ⟨w.heap.size, 1, none⟩ = some b ∧ U = U := by
  refine ⟨?_, ?_, rfl⟩ <;> simp
theorem strCells_str (l : List UInt8) : Lib.strCells (str l) = Lib.byteCells l := rfl
def encs (l : List Pr) : List UInt8 := Oc.big 4 l.length ++ l.flatMap enc
theorem enc_len (p : Pr) : (enc p).length = 6 + p.s.length := by
  unfold enc
  rw [List.length_append, List.length_append, Oc.big_length, Oc.big_length]
  omega
theorem byteCells_app (l m : List UInt8) : Lib.byteCells l ++ Lib.byteCells m = Lib.byteCells (l ++ m) := by simp [Lib.byteCells]
theorem byteCells_len (l : List UInt8) : (Lib.byteCells l).length = l.length := by simp [Lib.byteCells]
theorem encs_len (l : List Pr) (hs : ∀ p ∈ l, p.s.length ≤ 200) : (l.flatMap enc).length ≤ 206 * l.length := by
  induction l with
  | nil => exact Nat.zero_le _
  | cons p l ih =>
    rw [List.flatMap_cons, List.length_append, enc_len, List.length_cons]
    have h1 := hs p (by simp)
    have h2 := ih (fun q hq => hs q (by simp [hq]))
    omega
theorem encs_snoc (l : List Pr) (k : Nat) (p : Pr) (h : l[k]? = some p) : (l.take (k + 1)).flatMap enc = (l.take k).flatMap enc ++ enc p := by
  obtain ⟨hk, he⟩ := List.getElem?_eq_some_iff.1 h
  rw [List.take_succ_eq_append_getElem hk, List.flatMap_append, he]
  simp
end Go.Proofs.YtoekggbbkcmknaaGreatDoor
/- A builder beside an iterator; a command's bytes. -/
namespace Go.Proofs.YtoekggbbkcmknaaGreatDoor
open Go.RowKit
attribute [local go_sem ↓] zeroC_eq newC_eq loadC_eq storeC_eq buildC_eq zeroR_eq newR_eq loadR_eq storeR_eq buildR_eq
attribute [local go_sem] run_zeroC run_newC run_buildC0 run_buildC1 run_neqC run_eqlC run_guardC run_zeroR run_newR run_buildR0 run_buildR1 run_neqR run_eqlR run_guardR
theorem copyCheck_k (B b : Nat) (bs : List Value) (w : World) (h : Lib.IsBuilder 77 5 B b bs w) :
    Calls Tryz.prog 55 #[.pointer (some ⟨b, 0, none⟩)] w fun e w' => e = .returned (.tuple #[]) ∧ Lib.BuilderAt 77 5 B b (.pointer (some ⟨b, 0, none⟩)) bs w' ∧ Below B w w' ∧ Lib.OthersKept 5 (some b) w w' := by
  rcases h with h | h
  · refine (copyCheck_fresh b w h.cell0 h.shape h.frozen0).mono ?_
    rintro e w' ⟨rfl, rfl⟩
    exact ⟨rfl, h.used _, (Below.refl B w).setCell (p := ⟨b, 0, none⟩) h.1 _, (Lib.OthersKept.refl 5 (some b) w).setCell _ rfl _⟩
  · refine (copyCheck_used b w h.cell0).mono ?_
    rintro e w' ⟨rfl, rfl⟩
    exact ⟨rfl, h, Below.refl B _, Lib.OthersKept.refl _ _ _⟩
theorem writeString_k (B b : Nat) (bs : List Value) (s : ByteArray) (w : World) (h : Lib.IsBuilder 77 5 B b bs w) (hlen : bs.length + s.size ≤ 140737488355328) (hBw : B ≤ w.heap.size) :
    Calls Tryz.prog 29 #[.pointer (some ⟨b, 0, none⟩), .string s] w fun e w' => e = .returned (.tuple #[.int .i64 s.size, .nilIface]) ∧ Lib.BuilderAt 77 5 B b (.pointer (some ⟨b, 0, none⟩)) (bs ++ Lib.strCells s) w' ∧ Below B w w' ∧ Lib.OthersKept 5 (some b) w w' := by
  obtain ⟨i0, hi, hz0, hz1, hz2⟩ := info_parts infoByte
  go_enter Tryz.func29, Tryz.ntmps29
  go_wp2_with (go_at_call 55; refine (copyCheck_k B b bs _ h).mono ?_)
  rintro e w1 ⟨rfl, ⟨hB, v, hbk, hown, hne⟩, hb1, hk1⟩
  have hsz := hb1.size
  have c0 : w1.cell? ⟨b, 0, none⟩ = some (.pointer (some ⟨b, 0, none⟩)) := by rw [Lib.cell_of_heap hbk]; rfl
  have c1 : w1.cell? ⟨b, 1, none⟩ = some v := by rw [Lib.cell_of_heap hbk]; rfl
  have HK1 := Lib.hid hk1
  clear hk1
  go_wp2_with (at_builtin; refine Lib.wpList_append_own_string _ rfl _ _ 70 9 rfl B 5 i0 Tryz.underlying70 Tryz.underlying9 hi hz0 hz1 hz2 _ _ _ rfl hown s rfl ?c3 ?c4 ?c5 ?_)
  case c3 => unfold maxLen; omega
  case c4 => omega
  case c5 => omega
  intro v' w2 hown' hgrow _
  have hlt : b < w1.heap.size := by
    rcases Nat.lt_or_ge b w1.heap.size with h' | h'
    · exact h'
    · simp [Array.getElem?_eq_none h'] at hbk
  have hb2 : w2.heap[b]? = some (.cells #[.pointer (some ⟨b, 0, none⟩), v] 77 (0, 0)) := by
    rw [hgrow.block b hlt (fun e => hne e.symm)]
    exact hbk
  have d0 : w2.cell? ⟨b, 0, none⟩ = some (.pointer (some ⟨b, 0, none⟩)) := by rw [Lib.cell_of_heap hb2]; rfl
  have d1 : w2.cell? ⟨b, 1, none⟩ = some v := by rw [Lib.cell_of_heap hb2]; rfl
  have g1 : w2.frozen? ⟨b, 1, none⟩ = false := Lib.frozen_of_heap hb2 1
  obtain ⟨ao, m, cap, rfl⟩ : ∃ ao m cap, v' = .slice ao m cap := by
    rcases hown'.2 with ⟨hv, _⟩ | ⟨g, cap, cur, hv, _⟩
    · exact ⟨_, _, _, hv⟩
    · exact ⟨_, _, _, hv⟩
  have HK2 := Lib.hid (HK1.out.grown hgrow (fun g hg => by
    rcases hown.2 with ⟨rfl, _⟩ | ⟨g', cap, cur, rfl, _, hh, _⟩
    · cases hg
    · cases hg; exact ⟨_, _, hh⟩))
  go_wp2
  go_ret2
  refine ⟨rfl, ?_, ?_, ?_⟩
  · exact Lib.BuilderAt.put (T := 77) (e := 5) hB hb2 (bs' := bs ++ Lib.strCells s) (by simpa [Lib.strCells_length] using hown') (by decide)
  · exact (hb1.grown hgrow (by omega) (fun k hk => (hown.lt k hk).1)).setCell (p := ⟨b, 1, none⟩) hB _
  · exact HK2.out.setCell _ rfl _
theorem builder_iter {w : World} {B b k : Nat} {bs : List Value} {s : ByteArray} {m : Nat} (h : Lib.IsBuilder 77 5 B b bs w) (hk : w.heap[k]? = some (.stringIter s m)) (m' : Nat) : Lib.IsBuilder 77 5 B b bs (w.iterAt k s m') := by
  have go : ∀ p, Lib.BuilderAt 77 5 B b p bs w → Lib.BuilderAt 77 5 B b p bs (w.iterAt k s m') := by
    rintro p ⟨h1, v, h2, h3, h4⟩
    have hbk : b ≠ k := by rintro rfl; rw [hk] at h2; cases h2
    refine ⟨h1, v, by rw [Lib.iterAt_other _ _ _ _ _ hbk, h2], ?_, h4⟩
    obtain ⟨e0, e1⟩ := h3
    refine ⟨e0, ?_⟩
    rcases e1 with e1 | ⟨g, cap, cur, hv, hg, hh, rest⟩
    · exact .inl e1
    · have hgk : g ≠ k := by rintro rfl; rw [hk] at hh; cases hh
      exact .inr ⟨g, cap, cur, hv, hg, by rw [Lib.iterAt_other _ _ _ _ _ hgk, hh], rest⟩
  rcases h with h | h
  · exact .inl (go _ h)
  · exact .inr (go _ h)
theorem enc_le (s : Sg) (c : Cm) (h : s.long c = false) : (s.enc c).length ≤ 32772 := by
  have tb : ∀ (t : ByteArray) (n : Nat), decide (n < t.size) = false → n ≤ 32768 → (Sg.txb t).length ≤ 32772 := by
    intro t n h1 h2
    have h3 := of_decide_eq_false h1
    unfold Sg.txb
    rw [List.length_append, Oc.big_length]
    show 4 + t.size ≤ _
    omega
  cases s
  · exact tb c.qn 32 h (by decide)
  · exact Nat.le_trans (Nat.le_of_eq (Oc.big_length 4 _)) (by decide)
  · exact Nat.le_trans (Nat.le_of_eq (Oc.big_length 8 _)) (by decide)
  · exact Nat.le_trans (Nat.le_of_eq (Oc.big_length 4 _)) (by decide)
  · exact tb c.qd 32 h (by decide)
  · exact tb c.bx 32 h (by decide)
  · exact Nat.le_trans (Nat.le_of_eq (Oc.big_length 1 _)) (by decide)
  · exact tb c.bp 512 h (by decide)
  · exact tb c.bq 32 h (by decide)
  · exact tb c.ex 32 h (by decide)
  · exact tb c.key 512 h (by decide)
  · exact tb c.body 32768 h (by decide)
  · exact Nat.le_trans (Nat.le_of_eq (Oc.big_length 8 _)) (by decide)
  · exact Nat.le_trans (Nat.le_of_eq (Oc.big_length 8 _)) (by decide)
  · exact Nat.le_trans (Nat.le_of_eq (Oc.big_length 8 _)) (by decide)
  · exact Nat.le_trans (Nat.le_of_eq (Oc.big_length 8 _)) (by decide)
  · exact Nat.le_trans (Nat.le_of_eq (Oc.big_length 1 _)) (by decide)
theorem encL_le (c : Cm) : ∀ (l : List Sg), (∀ s ∈ l, s.long c = false) → (l.flatMap fun s => s.enc c).length ≤ 32772 * l.length
  | [], _ => Nat.zero_le _
  | s :: l, h => by
    rw [List.flatMap_cons, List.length_append, List.length_cons]
    have h1 := enc_le s c (h s (by simp))
    have h2 := encL_le c l (fun t' ht => h t' (by simp [ht]))
    omega
theorem form_le (k : Int) : (form k).length ≤ 5 := by
  unfold form
  repeat' split
  all_goals decide
set_option maxRecDepth 1000000 in
theorem put_any (c : Cm) (hk : 1 ≤ c.kind ∧ c.kind ≤ 13) (hok : c.ok) (hl : ∀ s ∈ form c.kind, s.long c = false) (w : World) (hF : Forms w) :
    Calls Tryz.prog 58 #[c.agg] w fun e w' => e = .returned (.string (str (encC c))) ∧ Below w.heap.size w w' := by
  obtain ⟨hk1, hk2⟩ := hk
  have hC0 := (BxC.newC w c).alloc (.cells #[.pointer none, .slice none 0 0] 77)
  have hk00 := hC0.cell 0 _ rfl
  have HF0 := Lib.hid ((hF.alloc (objC c)).alloc (.cells #[.pointer none, .slice none 0 0] 77))
  have HC0 := Lib.hid hC0
  have HOK := Lib.hid hok
  have HL := Lib.hid hl
  have HO := Lib.hid (fun W => one_at c.kind c.kind.toNat (by omega) (by omega) W)
  have HB0 := Lib.hid (builder2 w (objC c))
  clear hF hC0 hok hl
  go_enter Tryz.func58, Tryz.ntmps58
  go_wp2_with (first
    | (go_at_call 99; refine (HO.out _).mono ?_; rintro e w1 ⟨rfl, hb1⟩)
    | (go_at_call 29; refine (writeString_k (w.heap.size + 1) (w.heap.size + 1) [] _ _ (builder_below HB0.out hb1 (Nat.le_refl _)) (by rw [big_size]; simp) (by have := hb1.size; simp at this; omega)).mono ?_; rintro e w2 ⟨rfl, hbld, hb2, _⟩; have hC2 := (HC0.out.below hb1).below' hb2 (Nat.lt_succ_self _); have hk02 := hC2.cell 0 _ rfl; have hF2 := ((HF0.out.below hb1 HF0.out.lt).below hb2 (by omega)); have hf := hF2 c.kind hk1 hk2))
  have hsz2 : w.heap.size + 2 ≤ w2.heap.size := by have := hb1.size; have := hb2.size; simp at *; omega
  have HSZ := Lib.hid hsz2
  have HB2 := Lib.hid (((((Below.refl w.heap.size w).alloc (Nat.le_refl _) (objC c)).alloc (by simp) (.cells #[.pointer none, .slice none 0 0] 77)).trans (hb1.mono (by simp; omega))).trans (hb2.mono (Nat.le_succ _)))
  have HC2 := Lib.hid hC2
  have HBL : Hid (Lib.IsBuilder 77 5 (w.heap.size + 1) (w.heap.size + 1) (Lib.byteCells (Oc.big 1 c.kind.toNat)) w2) := by
    have := hbld
    rw [strCells_str, List.nil_append] at this
    exact .inr this
  clear hbld hb1 hb2 hC2 hk02 hF2 hf hsz2 hk00 HF0 HC0 HB0 HO
  go_loopg [] (form c.kind).length (fun n wr => ∃ m, m + n = (form c.kind).length ∧ Lib.IsBuilder 77 5 (w.heap.size + 1) (w.heap.size + 1) (Lib.byteCells (Oc.big 1 c.kind.toNat ++ ((form c.kind).take m).flatMap fun s => s.enc c)) wr ∧ BxC wr w.heap.size c ∧ wr.heap[w2.heap.size]? = some (.stringIter (formS c.kind) m) ∧ Below w.heap.size w wr)
  case atStart => exact ⟨0, by omega, by rw [List.take_zero, List.flatMap_nil, List.append_nil]; exact builder_below HBL.out ((Below.refl _ _).alloc (Nat.le_refl _) (.stringIter (formS c.kind) 0)) (Nat.le_refl _), HC2.out.iter _ _, iter_at _ _ _, iter_below HB2.out (by have := HSZ.out; omega) _ _⟩
  case round =>
    obtain ⟨m, hm, hD, hC, hI, hB⟩ := hrel
    have hsz := HSZ.out
    by_cases hlt : m < (form c.kind).length
    · obtain ⟨s, hs⟩ : ∃ s, (form c.kind)[m]? = some s := ⟨_, List.getElem?_eq_getElem hlt⟩
      have hnx : ∀ ty, (Instr.next (.pointer (some ⟨w2.heap.size, 0, none⟩)) true ty).run Tryz.prog wr = _ := fun ty => next_sign Tryz.prog wr _ _ m s ty hI hs
      have hu := iter_upd wr w2.heap.size (formS c.kind) (m + 1)
      have hI1 := Lib.iterAt_heap wr w2.heap.size (formS c.kind) m (m + 1) hI
      have HD := Lib.hid (builder_iter hD hI (m + 1))
      have HC := Lib.hid (hC.upd hu (by omega))
      have HB := Lib.hid (Lib.below_iterAt hB (k := w2.heap.size) (by omega) (formS c.kind) (m + 1))
      have HI := Lib.hid hI1
      have HL2 := Lib.hid (show w2.heap.size < (wr.iterAt w2.heap.size (formS c.kind) (m + 1)).heap.size from (Array.getElem?_eq_some_iff.1 hI1).1)
      have HS := Lib.hid hs
      have HM := Lib.hid hm
      have HLE := Lib.hid (encL_le c ((form c.kind).take m) (fun t' ht => HL.out t' (List.mem_of_mem_take ht)))
      have HFL := Lib.hid (form_le c.kind)
      have HE1 := Lib.hid (enc_le s c (HL.out s (List.mem_of_getElem? hs)))
      clear hD hC hI hB hI1 hs hu hm hlt hsz
      go_wp2_with (first
        | (go_at_call 46; refine (field_any s _).mono ?_; rintro e w4 ⟨P, rfl, ⟨fh, fl, fp, fg, ch, cl, cp, cg, rfl, ⟨_, _, e3, _⟩, _, _, hP, _⟩, hb⟩; have HD4 := Lib.hid (builder_below HD.out hb (Nat.le_refl _)); have HC4 := Lib.hid (HC.out.below hb); have HB4 := Lib.hid (HB.out.trans (hb.mono (by have := HL2.out; have := HSZ.out; omega))); have HI4 := Lib.hid ((hb.block _ HL2.out).trans HI.out); have HH := Lib.hid (fun (W' : World) (hW : W'.heap = w4.heap) (h2 : BxC W' w.heap.size c) => hP W' _ _ (Stay.heap hW) h2 HOK.out (HL.out s (List.mem_of_getElem? HS.out))); unfold Ent at e3; have p0 := fun W => fpart2 fh fl fp fg ch cl cp cg W; clear hP)
        | ((with_reducible refine (HH.out _ rfl HC4.out).mono ?_); rintro e w5 ⟨rfl, hb5⟩)
        | (go_at_call 29; refine (writeString_k (w.heap.size + 1) (w.heap.size + 1) _ _ _ (builder_below HD4.out hb5 (Nat.le_refl _)) ?_ ?_).mono ?_))
      case refine_1 =>
        rw [byteCells_len, str_size, List.length_append, Oc.big_length]
        have h1 := HLE.out
        have h2 := HFL.out
        have h3 := HE1.out
        rw [List.length_take] at h1
        omega
      case refine_2 => have := HL2.out; have := HSZ.out; have := hb.size; have := hb5.size; omega
      rintro e w6 ⟨rfl, hbld, hb6, hk6⟩
      have hD6 : Lib.IsBuilder 77 5 (w.heap.size + 1) (w.heap.size + 1) (Lib.byteCells (Oc.big 1 c.kind.toNat ++ ((form c.kind).take (m + 1)).flatMap fun s => s.enc c)) w6 := by
        rw [strCells_str, byteCells_app, List.append_assoc] at hbld
        rw [List.take_add_one, HS.out]
        simp only [Option.toList_some, List.flatMap_append, List.flatMap_cons, List.flatMap_nil, List.append_nil]
        exact .inr hbld
      have hI6 := hk6.iter ((hb5.block _ (Array.getElem?_eq_some_iff.1 HI4.out).1).trans HI4.out) (by have := HSZ.out; omega)
      have hC6 := (HC4.out.below hb5).below' hb6 (Nat.lt_succ_self _)
      have hB6 := (HB4.out.trans (hb5.mono (Below.size HB4.out))).trans (hb6.mono (Nat.le_succ _))
      have H6 := Lib.hid (And.intro hD6 (And.intro hC6 (And.intro hI6 hB6)))
      clear hbld hb6 hk6 hD6 hC6 hI6 hB6
      go_wp2
      go_roundg (gk - 1)
      case rel =>
        have hm1 := HM.out
        have hl1 := (List.getElem?_eq_some_iff.1 HS.out).1
        obtain ⟨h1, h2, h3, h4⟩ := H6.out
        exact ⟨m + 1, by omega, h1, h2, h3, h4⟩
      case measure =>
        have hm1 := HM.out
        have hl1 := (List.getElem?_eq_some_iff.1 HS.out).1
        omega
    · obtain rfl : m = (form c.kind).length := by omega
      rw [List.take_length] at hD
      have hnx : ∀ ty, (Instr.next (.pointer (some ⟨w2.heap.size, 0, none⟩)) true ty).run Tryz.prog wr = _ := fun ty => next_end Tryz.prog wr _ _ ty hI
      have HD := Lib.hid hD
      have HB := Lib.hid hB
      have HWS := Lib.hid (show w.heap.size + 1 ≤ wr.heap.size by have := hB.size; have := (Array.getElem?_eq_some_iff.1 hI).1; omega)
      clear hD hC hI hB hlt hm hsz
      go_wp2_with (go_at_call 31; refine (Tryz.Builder_String_any (w.heap.size + 1) (w.heap.size + 1) _ _ HD.out HWS.out).mono ?_; rintro e w6 ⟨rfl, hb6⟩)
      go_ret
      exact ⟨rfl, HB.out.trans (hb6.mono (Nat.le_succ _))⟩
end Go.Proofs.YtoekggbbkcmknaaGreatDoor
/- The codec's Bytes; Bytes. -/
namespace Go.Proofs.YtoekggbbkcmknaaGreatDoor
open Go.RowKit
theorem resBy {w : World} {g : Nat} {t : ByteArray} {tmps : Array Value} (hp : tmps[4]? = some (.pointer (some ⟨g, 0, none⟩))) (hc : w.cell? ⟨g, 0, none⟩ = some (.string t)) :
    (results Tryz.f34 tmps).run Tryz.prog w = .ok (.string t) w := by
  simp [results, Tryz.results34, go_sem, hp, hc]
attribute [local go_sem ↓] zeroC_eq newC_eq loadC_eq storeC_eq buildC_eq zeroR_eq newR_eq loadR_eq storeR_eq buildR_eq
attribute [local go_sem] run_zeroC run_newC run_buildC0 run_buildC1 run_neqC run_eqlC run_guardC run_zeroR run_newR run_buildR0 run_buildR1 run_neqR run_eqlR run_guardR
attribute [local go_sem ↓] bslC_eq bslR_eq
attribute [local go_sem] run_bslC run_bslR
def fine (c : Cm) : Prop := wrongC c = 0
theorem fine_iff {c : Cm} (h : wrongC c = 0) : (1 ≤ c.kind ∧ c.kind ≤ 13) ∧ c = told c ∧ 0 ≤ c.bk ∧ c.bk ≤ 255 ∧ ∀ s ∈ form c.kind, s.long c = false := by
  unfold wrongC at h
  split at h
  · cases h
  · rename_i h1
    split at h
    · cases h
    · rename_i h2
      split at h
      · cases h
      · rename_i h3
        refine ⟨known_iff.1 (by simpa using h1), Classical.not_not.1 fun h => h2 (.inl h), ?_, ?_, fun s hs => ?_⟩
        · exact Int.not_lt.1 fun h => h2 (.inr (.inl h))
        · exact Int.not_lt.1 fun h => h2 (.inr (.inr h))
        · cases hl : s.long c with
          | false => rfl
          | true => exact absurd (List.any_eq_true.2 ⟨s, hs, hl⟩) h3
def bytesC (c : Cm) : ByteArray × Int := if wrongC c = 0 then (str (encC c), 0) else (⟨#[]⟩, wrongC c)
set_option maxHeartbeats 800000 in
theorem cBytes_any (c : Cm) (hok : c.ok) (hw : wrongC c = 0) (w : World) (hF : Forms w) :
    Calls Tryz.prog 34 #[(.agg #[.func (.func 58) #[] #[], .func (.func 18) #[] #[]] : Value), c.agg] w fun e w' => e = .returned (.string (str (encC c))) ∧ Below w.heap.size w w' := by
  have hmf : ∀ (fn : Fn) (first cap : Array Value) (w : World), (Instr.makeFunc fn first cap).run Tryz.prog w = .ok (.func fn first cap) w := fun _ _ _ _ => rfl
  have heq := func_nilB
  obtain ⟨hk, -, -, -, hl⟩ := fine_iff hw
  have HP := Lib.hid (fun W (hV : Forms W) => put_any c hk hok hl W hV)
  have HF := Lib.hid hF
  clear hw hk hl hF hok
  revert HP
  generalize str (encC c) = bt
  intro HP
  have hld : (loadC ⟨w.heap.size + 1, 0, none⟩).run Tryz.prog (((w.alloc (.cells #[.func (.func 58) #[] #[], .func (.func 18) #[] #[]] 87)).alloc (objC c)).alloc (.cells #[.string ⟨#[]⟩] 9)) = .ok c.agg (((w.alloc (.cells #[.func (.func 58) #[] #[], .func (.func 18) #[] #[]] 87)).alloc (objC c)).alloc (.cells #[.string ⟨#[]⟩] 9)) := by
    have h := (BxC.newC (w.alloc (.cells #[.func (.func 58) #[] #[], .func (.func 18) #[] #[]] 87)) c).alloc (.cells #[.string ⟨#[]⟩] 9)
    rw [World.size_alloc] at h
    exact run_loadC h
  go_enter_defers Tryz.func34, Tryz.ntmps34
  go_wp2_with (go_at_call 58; refine (HP.out _ (((HF.out.alloc _).alloc _).alloc _)).mono ?_; rintro e w1 ⟨rfl, hb⟩; have hc := hb.cell (p := ⟨w.heap.size + 1 + 1, 0, none⟩) (lt3 w _ _ _); have hz := hb.frozen (p := ⟨w.heap.size + 1 + 1, 0, none⟩) (lt3 w _ _ _))
  have hcs : (w1.setCell ⟨w.heap.size + 1 + 1, 0, none⟩ (.string bt)).cell? ⟨w.heap.size + 1 + 1, 0, none⟩ = some (.string bt) := World.cell?_setCell_same _ _ _ (u := .string ⟨#[]⟩) (hc.trans (cell3 w _ _ _ 9))
  refine leaves_cons (f := 59) (args := #[.pointer (some ⟨w.heap.size + 1 + 1, 0, none⟩)]) (by simp) (by simp [go_sem]) ?_
  refine (idleB ⟨w.heap.size + 1 + 1, 0, none⟩ _).mono ?_
  rintro e u' w'' ⟨rfl, rfl, rfl⟩
  simp [Leaves, settle]
  exact ⟨_, resBy rfl hcs, rfl, below_step' (below3 w _ _ _) hb |>.setCell (show w.heap.size ≤ w.heap.size + 1 + 1 by omega) _⟩
set_option maxHeartbeats 800000 in
theorem bytes_any (c : Cm) (hok : c.ok) (w : World) (hF : Forms w) :
    Calls Tryz.prog 10 #[c.agg] w fun e w' => e = .returned (.tuple #[.string (bytesC c).1, .int .i64 (bytesC c).2]) ∧ Below w.heap.size w w' := by
  have HW := Lib.hid (fun W (hV : Forms W) => wrong_any c W hV)
  have HF0 := Lib.hid (hF.alloc (objC c))
  have hl0 := run_loadC (BxC.newC w c)
  have HC0 := Lib.hid (BxC.newC w c)
  have HB0 := Lib.hid ((Below.refl w.heap.size w).alloc (Nat.le_refl _) (objC c))
  clear hF
  unfold bytesC
  by_cases hw : wrongC c = 0
  · rw [if_pos hw]
    have HBY := Lib.hid (fun W (hV : Forms W) => cBytes_any c hok hw W hV)
    rw [hw] at HW
    clear hw
    go_enter Tryz.func10, Tryz.ntmps10
    go_wp2_with (go_at_call 32; refine (HW.out _ HF0.out).mono ?_; rintro e w1 ⟨rfl, hb1⟩; have HS0 := Lib.hid (heldW0 (HC0.out.below hb1) (HF0.out.below hb1 HF0.out.lt)))
    go_region_held3 (fun w' => (loadC ⟨w.heap.size, 0, none⟩).run Tryz.prog w' = .ok c.agg w' ∧ w'.cell? ⟨w.heap.size, 7, none⟩ = some (.int .i64 c.bk) ∧ BxC w' w.heap.size c ∧ Forms w' ∧ Below w1.heap.size w1 w')
      ((first | assumption | exact HS0.out | exact heldWd HS0.out | exact heldW ‹_› hb | exact heldWd ‹_›))
      (first
        | (go_at_call 33; (with_reducible refine (codec_any _).mono ?_); rintro e w2 ⟨rfl, hb⟩)
        | (go_at_call 34; (with_reducible refine (HBY.out _ ?_).mono ?_); (next => exact heldForms (w0 := w1) (g := w.heap.size) (c := c) ‹_›); rintro e w2 ⟨rfl, hb⟩))
    rename_i hS
    have hx := hS.2.2.2.2
    clear hS
    go_wp2
    go_ret2
    exact ⟨rfl, HB0.out.trans ((hb1.trans (hx.mono hb1.size)).mono (by simp))⟩
  · rw [if_neg hw]
    have hw' : (wrongC c != 0) = true := by rw [bne_iff_ne]; exact hw
    clear hw
    revert HW hw'
    generalize wrongC c = x
    intro HW hw'
    go_enter Tryz.func10, Tryz.ntmps10
    go_wp2_with (go_at_call 32; refine (HW.out _ HF0.out).mono ?_; rintro e w1 ⟨rfl, hb1⟩)
    go_ret2
    exact ⟨rfl, HB0.out.trans (hb1.mono (by simp))⟩
end Go.Proofs.YtoekggbbkcmknaaGreatDoor
/- The document's Bytes: its boxes. -/
namespace Go.Proofs.YtoekggbbkcmknaaGreatDoor
open Go.RowKit
attribute [local go_sem ↓] zeroC_eq newC_eq loadC_eq storeC_eq buildC_eq zeroR_eq newR_eq loadR_eq storeR_eq buildR_eq
attribute [local go_sem] run_zeroC run_newC run_buildC0 run_buildC1 run_neqC run_eqlC run_guardC run_zeroR run_newR run_buildR0 run_buildR1 run_neqR run_eqlR run_guardR
attribute [local go_sem ↓] bslC_eq bslR_eq
attribute [local go_sem] run_bslC run_bslR
def qv (c : Cm) : List Value := [.string c.qn, .int .u32 c.most, .int .u64 c.ttl, .int .u32 c.tries, .string c.qd]
def bv (c : Cm) : List Value := [.string c.bx, .int .i64 c.bk, .string c.bp, .string c.bq]
/-- What the document's Bytes keeps: the command, what is told of it, its queue, its binding. -/
structure RB (w : World) (g6 g7 : Nat) (c o : Cm) (W : World) : Prop where
  C : BxC W w.heap.size c
  O : BxC W (w.heap.size + 1) o
  q : BxV W g6 (qv c)
  b : BxV W g7 (bv c)
  B : Below w.heap.size w W
  h6 : w.heap.size + 1 < g6
  h7 : w.heap.size + 1 < g7
  l6 : g6 < W.heap.size
  l7 : g7 < W.heap.size
theorem RB.below {w W W' : World} {g6 g7 : Nat} {c o : Cm} (h : RB w g6 g7 c o W) (hb : Below W.heap.size W W') : RB w g6 g7 c o W' :=
  ⟨h.C.below hb, h.O.below hb, h.q.below' hb h.l6, h.b.below' hb h.l7, h.B.trans (hb.mono h.B.size), h.h6, h.h7, Nat.lt_of_lt_of_le h.l6 hb.size, Nat.lt_of_lt_of_le h.l7 hb.size⟩
theorem RB.hand {w W : World} {g6 g7 : Nat} {c o : Cm} (s : Sg) (h : RB w g6 g7 c o W) : RB w g6 g7 c (s.hand o c) (W.setCell ⟨w.heap.size + 1, s.off, none⟩ (s.val c)) := by
  have hb : ∀ k, k ≠ w.heap.size + 1 → (W.setCell ⟨w.heap.size + 1, s.off, none⟩ (s.val c)).heap[k]? = W.heap[k]? := fun k hk => Below.heap_setCell _ _ _ _ (by show k ≠ w.heap.size + 1; exact hk)
  exact ⟨h.C.keep (hb _ (by omega)), h.O.set s c, h.q.keep (hb _ (by have := h.h6; omega)), h.b.keep (hb _ (by have := h.h7; omega)), h.B.setCell (p := ⟨w.heap.size + 1, s.off, none⟩) (Nat.le_succ _) _, h.h6, h.h7, by simpa using h.l6, by simpa using h.l7⟩
/-- Its texts are short enough for sums of their sizes. -/
structure Lt4 (c : Cm) : Prop where
  qn : c.qn.size ≤ 40000
  qd : c.qd.size ≤ 40000
  bx : c.bx.size ≤ 40000
  bp : c.bp.size ≤ 40000
  bq : c.bq.size ≤ 40000
  ex : c.ex.size ≤ 40000
  key : c.key.size ≤ 40000
  body : c.body.size ≤ 40000
theorem txb_le (s : ByteArray) (h : s.size ≤ 40000) : (str (Sg.txb s)).size ≤ 40004 := by
  rw [str_size]; unfold Sg.txb; rw [List.length_append, Oc.big_length]
  show 4 + s.size ≤ _
  omega
theorem refKind (k : Int) (W : World) : Calls Tryz.prog 7 #[.int .u64 (IntKind.u64.wrap k), .int .i64 1] W fun e w' => e = .returned (.string (str (Oc.big 1 (IntKind.u8.wrap k).toNat))) ∧ Below W.heap.size W w' := by
  obtain ⟨n, hn⟩ : ∃ n : Nat, IntKind.u64.wrap k = n := ⟨(IntKind.u64.wrap k).toNat, by rw [IntKind.wrap_u64]; omega⟩
  have hlt : n < 18446744073709551616 := by rw [IntKind.wrap_u64] at hn; omega
  have h1 : Oc.big 1 (IntKind.u8.wrap k).toNat = Oc.big 1 n := by
    have h2 : (IntKind.u8.wrap k).toNat = n % 256 ^ 1 := by
      rw [IntKind.wrap_u64] at hn
      unfold IntKind.wrap; simp [IntKind.signed, IntKind.bits]; omega
    rw [h2, Oc.big_mod]
  rw [h1]
  exact big_any _ n 1 hn hlt (by decide) (by decide) W
theorem refTx (s : ByteArray) (h : s.size < 4294967296) (w : World) : Calls Tryz.prog 35 #[.string s] w fun e w' => e = .returned (.string (str (Sg.txb s))) ∧ Below w.heap.size w w' := refText_at s h w
theorem rEight (n : Nat) (hn : n < 18446744073709551616) (w : World) : Calls Tryz.prog 36 #[.int .u64 n] w fun e w' => e = .returned (.string (str (Oc.big 8 n))) ∧ Below w.heap.size w w' := by
  have HB := Lib.hid (fun W => big8 (n : Int) n rfl hn W)
  clear hn
  go_enter Tryz.func36, Tryz.ntmps36
  go_wp2_with (go_at_call 7; refine (HB.out _).mono ?_; rintro e w1 ⟨rfl, hb1⟩)
  go_ret
  exact ⟨rfl, hb1⟩
theorem rb_first (c : Cm) (w : World) : ∃ W, (storeR ⟨w.heap.size + 1, 0, none⟩ (Cm.zero c.kind).agg).run Tryz.prog ((w.alloc (objR c)).alloc (objR (Cm.zero 0))) = .ok () W ∧ BxC W w.heap.size c ∧ BxC W (w.heap.size + 1) (Cm.zero c.kind) ∧ Below w.heap.size w W ∧ W.heap.size = w.heap.size + 1 + 1 := by
  have h1 : BxC ((w.alloc (objR c)).alloc (objR (Cm.zero 0))) w.heap.size c := (BxC.newR w c).alloc _
  have h3 : BxC ((w.alloc (objR c)).alloc (objR (Cm.zero 0))) (w.heap.size + 1) (Cm.zero 0) := by
    have := BxC.newR (w.alloc (objR c)) (Cm.zero 0)
    simpa only [World.size_alloc] using this
  have hs := h3.stored (Cm.zero c.kind)
  refine ⟨_, run_storeR h3 _, h1.upd hs.2 (by omega), hs.1, ?_, by rw [hs.2.size]; simp⟩
  exact (((Below.refl _ _).alloc (Nat.le_refl _) _).alloc (by simp) _).trans (hs.2.below (by omega))
set_option maxHeartbeats 800000 in
theorem refBytes_none (c : Cm) (hk : ¬ (1 ≤ c.kind ∧ c.kind ≤ 13)) (w : World) :
    Calls Tryz.prog 11 #[c.agg] w fun e w' => e = .returned (.tuple #[.string ⟨#[]⟩, .int .i64 11]) ∧ Below w.heap.size w w' := by
  have k0 := (BxC.newR w c).cell 0 _ rfl
  by_cases h1 : c.kind < 1
  · clear hk
    go_enter Tryz.func11, Tryz.ntmps11
    go_wp2
    go_ret2
    exact ⟨rfl, below_alloc' _ _⟩
  · have h2 : 13 < c.kind := by omega
    clear hk
    go_enter Tryz.func11, Tryz.ntmps11
    go_wp2
    go_ret2
    exact ⟨rfl, below_alloc' _ _⟩
theorem RB.mk1 {w w1 : World} {c o : Cm} (hC : BxC w1 w.heap.size c) (hO : BxC w1 (w.heap.size + 1) o) (hB : Below w.heap.size w w1) (hs : w.heap.size + 1 + 1 ≤ w1.heap.size) (T U : TypeId) :
    RB w w1.heap.size (w1.heap.size + 1) c o ((w1.alloc (.cells #[.string c.qn, .int .u32 c.most, .int .u64 c.ttl, .int .u32 c.tries, .string c.qd] T)).alloc (.cells #[.string c.bx, .int .i64 c.bk, .string c.bp, .string c.bq] U)).drew := by
  have h1 := (BxV.new w1 #[.string c.qn, .int .u32 c.most, .int .u64 c.ttl, .int .u32 c.tries, .string c.qd] T).alloc (by simp) (.cells #[.string c.bx, .int .i64 c.bk, .string c.bp, .string c.bq] U)
  have h2 := BxV.new (w1.alloc (.cells #[.string c.qn, .int .u32 c.most, .int .u64 c.ttl, .int .u32 c.tries, .string c.qd] T)) #[.string c.bx, .int .i64 c.bk, .string c.bp, .string c.bq] U
  rw [World.size_alloc] at h2
  refine ⟨((hC.alloc _).alloc _).drew, ((hO.alloc _).alloc _).drew, h1.heap rfl, h2.heap rfl, ?_, by omega, by omega, by simp <;> omega, by simp <;> omega⟩
  exact ((hB.alloc hB.size _).alloc (by have := hB.size; simp; omega) _).trans ⟨rfl, rfl, rfl, Nat.le_refl _, fun _ _ => rfl⟩
theorem RB.mk2 {w w1 : World} {c o : Cm} (hC : BxC w1 w.heap.size c) (hO : BxC w1 (w.heap.size + 1) o) (hB : Below w.heap.size w w1) (hs : w.heap.size + 1 + 1 ≤ w1.heap.size) (T U : TypeId) :
    RB w (w1.heap.size + 1) w1.heap.size c o ((w1.alloc (.cells #[.string c.bx, .int .i64 c.bk, .string c.bp, .string c.bq] U)).alloc (.cells #[.string c.qn, .int .u32 c.most, .int .u64 c.ttl, .int .u32 c.tries, .string c.qd] T)).drew := by
  have h1 := (BxV.new w1 #[.string c.bx, .int .i64 c.bk, .string c.bp, .string c.bq] U).alloc (by simp) (.cells #[.string c.qn, .int .u32 c.most, .int .u64 c.ttl, .int .u32 c.tries, .string c.qd] T)
  have h2 := BxV.new (w1.alloc (.cells #[.string c.bx, .int .i64 c.bk, .string c.bp, .string c.bq] U)) #[.string c.qn, .int .u32 c.most, .int .u64 c.ttl, .int .u32 c.tries, .string c.qd] T
  rw [World.size_alloc] at h2
  refine ⟨((hC.alloc _).alloc _).drew, ((hO.alloc _).alloc _).drew, h2.heap rfl, h1.heap rfl, ?_, by omega, by omega, by simp <;> omega, by simp <;> omega⟩
  exact ((hB.alloc hB.size _).alloc (by have := hB.size; simp; omega) _).trans ⟨rfl, rfl, rfl, Nat.le_refl _, fun _ _ => rfl⟩
end Go.Proofs.YtoekggbbkcmknaaGreatDoor
/- The document's Read, step by step. -/
namespace Go.Proofs.YtoekggbbkcmknaaGreatDoor
open Go.RowKit
theorem BxC.kind {w : World} {g : Nat} {c : Cm} (h : BxC w g c) (k : Int) : BxC (w.setCell ⟨g, 0, none⟩ (.int .i64 k)) g { c with kind := k } := by
  refine ⟨by simpa [World.setCell] using h.lt, fun j v hv => ?_, fun j hj => by rw [World.frozen?_setCell]; exact h.free j hj⟩
  cases j with
  | zero =>
    rw [World.cell?_setCell_same' _ _ _ (by rw [h.cell 0 _ rfl]; rfl)]
    exact hv
  | succ j =>
    rw [World.cell?_setCell_other _ _ _ _ (fun h => by injection h with h1 h2; omega)]
    exact h.cell (j + 1) v hv
theorem num1 (b : Nat) (s : ByteArray) (e : Int) (w : World) (h : Rd w b s e) :
    Calls Tryz.prog 41 #[.pointer (some ⟨b, 0, none⟩), .int .i64 1] w fun v w' => v = .returned (.int .u64 (Oc.val (tk s e 1).1.data.toList : Nat)) ∧ Rd w' b (tk s e 1).2.1 (tk s e 1).2.2 ∧ Upd b w w' := num_any b s e 1 (by decide) w h
theorem num4 (b : Nat) (s : ByteArray) (e : Int) (w : World) (h : Rd w b s e) :
    Calls Tryz.prog 41 #[.pointer (some ⟨b, 0, none⟩), .int .i64 4] w fun v w' => v = .returned (.int .u64 (Oc.val (tk s e 4).1.data.toList : Nat)) ∧ Rd w' b (tk s e 4).2.1 (tk s e 4).2.2 ∧ Upd b w w' := num_any b s e 4 (by decide) w h
theorem num8 (b : Nat) (s : ByteArray) (e : Int) (w : World) (h : Rd w b s e) :
    Calls Tryz.prog 41 #[.pointer (some ⟨b, 0, none⟩), .int .i64 8] w fun v w' => v = .returned (.int .u64 (Oc.val (tk s e 8).1.data.toList : Nat)) ∧ Rd w' b (tk s e 8).2.1 (tk s e 8).2.2 ∧ Upd b w w' := num_any b s e 8 (by decide) w h
theorem vlt (bs : ByteArray) (e : Int) (k : Nat) : Oc.val (tk bs e k).1.data.toList < 256 ^ k := Nat.lt_of_lt_of_le (Oc.val_lt _) (Nat.pow_le_pow_right (by omega) (tk_size bs e k))
theorem vlt32 (bs : ByteArray) (e : Int) : ((Oc.val (tk bs e 4).1.data.toList : Nat) : Int) < 4294967296 := by have h : Oc.val (tk bs e 4).1.data.toList < 4294967296 := vlt bs e 4; omega
theorem vlt8 (bs : ByteArray) (e : Int) : ((Oc.val (tk bs e 1).1.data.toList : Nat) : Int) < 256 := by have h : Oc.val (tk bs e 1).1.data.toList < 256 := vlt bs e 1; omega
theorem tk_err (bs : ByteArray) (e : Int) (h : (tk bs e 1).2.2 ≠ 0) : Oc.val (tk bs e 1).1.data.toList = 0 := by
  unfold tk at h ⊢
  split at h
  · rename_i h1; rw [if_pos h1]; rfl
  · rename_i h1
    rw [if_neg h1]
    split at h
    · rename_i h2; rw [if_pos h2]; rfl
    · exact absurd rfl h
/-- What a step of the document's Read leaves: the part's cell ahead of its store, and all behind it. -/
structure StR (w0 : World) (b g : Nat) (s : Sg) (T : Cm × ByteArray × Int) (w1 w2 : World) : Prop where
  k : w1.cell? ⟨g, s.off, none⟩ = some (s.val T.1)
  f : w1.frozen? ⟨g, s.off, none⟩ = false
  T1 : BxC w2 g (s.read T).1
  Z : BxC w2 w0.heap.size (Cm.zero 0)
  M : Mod b w0 w2
theorem stR {w0 W w1 : World} {b g : Nat} (s : Sg) {T : Cm × ByteArray × Int} (d : Cm) (hT : BxC W g T.1) (hZ : BxC W w0.heap.size (Cm.zero 0)) (hM : Mod b w0 W) (hg : g = w0.heap.size + 1) (hb : b < w0.heap.size) (hu : Upd b W w1) (hd : (s.read T).1 = s.hand T.1 d) :
    StR w0 b g s T w1 (w1.setCell ⟨g, s.off, none⟩ (s.val d)) := by
  have h1 := hT.upd hu (by omega)
  have hU : Upd g w1 (w1.setCell ⟨g, s.off, none⟩ (s.val d)) := (Upd.refl _ _).setCell _
  exact ⟨h1.cell _ _ (val_at s _), h1.free _ (off_lt s), by rw [hd]; exact h1.set s d, (hZ.upd hu (by omega)).upd hU (by omega), mod_upd' (hM.upd hu) (by omega) hU⟩
theorem st_q {w0 W w1 : World} {b g : Nat} {T : Cm × ByteArray × Int} (hT : BxC W g T.1) (hZ : BxC W w0.heap.size (Cm.zero 0)) (hM : Mod b w0 W) (hg : g = w0.heap.size + 1) (hb : b < w0.heap.size) (hr : Rd w1 b (txt T.2.1 T.2.2 32).2.1 (txt T.2.1 T.2.2 32).2.2) (hu : Upd b W w1) :
    (w1.cell? ⟨g, 1, none⟩ = some (.string T.1.qn) ∧ w1.frozen? ⟨g, 1, none⟩ = false) ∧ BxC (w1.setCell ⟨g, 1, none⟩ (.string (txt T.2.1 T.2.2 32).1)) g (Sg.q.read T).1 ∧ BxC (w1.setCell ⟨g, 1, none⟩ (.string (txt T.2.1 T.2.2 32).1)) w0.heap.size (Cm.zero 0) ∧ Mod b w0 (w1.setCell ⟨g, 1, none⟩ (.string (txt T.2.1 T.2.2 32).1)) ∧ Rd (w1.setCell ⟨g, 1, none⟩ (.string (txt T.2.1 T.2.2 32).1)) b (Sg.q.read T).2.1 (Sg.q.read T).2.2 := by
  have h := stR .q { Cm.zero 0 with qn := (txt T.2.1 T.2.2 32).1 } hT hZ hM hg hb hu rfl
  exact ⟨⟨h.k, h.f⟩, h.T1, h.Z, h.M, hr.upd ((Upd.refl g _).setCell _) (by omega)⟩
theorem st_d {w0 W w1 : World} {b g : Nat} {T : Cm × ByteArray × Int} (hT : BxC W g T.1) (hZ : BxC W w0.heap.size (Cm.zero 0)) (hM : Mod b w0 W) (hg : g = w0.heap.size + 1) (hb : b < w0.heap.size) (hr : Rd w1 b (txt T.2.1 T.2.2 32).2.1 (txt T.2.1 T.2.2 32).2.2) (hu : Upd b W w1) :
    (w1.cell? ⟨g, 5, none⟩ = some (.string T.1.qd) ∧ w1.frozen? ⟨g, 5, none⟩ = false) ∧ BxC (w1.setCell ⟨g, 5, none⟩ (.string (txt T.2.1 T.2.2 32).1)) g (Sg.d.read T).1 ∧ BxC (w1.setCell ⟨g, 5, none⟩ (.string (txt T.2.1 T.2.2 32).1)) w0.heap.size (Cm.zero 0) ∧ Mod b w0 (w1.setCell ⟨g, 5, none⟩ (.string (txt T.2.1 T.2.2 32).1)) ∧ Rd (w1.setCell ⟨g, 5, none⟩ (.string (txt T.2.1 T.2.2 32).1)) b (Sg.d.read T).2.1 (Sg.d.read T).2.2 := by
  have h := stR .d { Cm.zero 0 with qd := (txt T.2.1 T.2.2 32).1 } hT hZ hM hg hb hu rfl
  exact ⟨⟨h.k, h.f⟩, h.T1, h.Z, h.M, hr.upd ((Upd.refl g _).setCell _) (by omega)⟩
theorem st_E {w0 W w1 : World} {b g : Nat} {T : Cm × ByteArray × Int} (hT : BxC W g T.1) (hZ : BxC W w0.heap.size (Cm.zero 0)) (hM : Mod b w0 W) (hg : g = w0.heap.size + 1) (hb : b < w0.heap.size) (hr : Rd w1 b (txt T.2.1 T.2.2 32).2.1 (txt T.2.1 T.2.2 32).2.2) (hu : Upd b W w1) :
    (w1.cell? ⟨g, 6, none⟩ = some (.string T.1.bx) ∧ w1.frozen? ⟨g, 6, none⟩ = false) ∧ BxC (w1.setCell ⟨g, 6, none⟩ (.string (txt T.2.1 T.2.2 32).1)) g (Sg.E.read T).1 ∧ BxC (w1.setCell ⟨g, 6, none⟩ (.string (txt T.2.1 T.2.2 32).1)) w0.heap.size (Cm.zero 0) ∧ Mod b w0 (w1.setCell ⟨g, 6, none⟩ (.string (txt T.2.1 T.2.2 32).1)) ∧ Rd (w1.setCell ⟨g, 6, none⟩ (.string (txt T.2.1 T.2.2 32).1)) b (Sg.E.read T).2.1 (Sg.E.read T).2.2 := by
  have h := stR .E { Cm.zero 0 with bx := (txt T.2.1 T.2.2 32).1 } hT hZ hM hg hb hu rfl
  exact ⟨⟨h.k, h.f⟩, h.T1, h.Z, h.M, hr.upd ((Upd.refl g _).setCell _) (by omega)⟩
theorem st_P {w0 W w1 : World} {b g : Nat} {T : Cm × ByteArray × Int} (hT : BxC W g T.1) (hZ : BxC W w0.heap.size (Cm.zero 0)) (hM : Mod b w0 W) (hg : g = w0.heap.size + 1) (hb : b < w0.heap.size) (hr : Rd w1 b (txt T.2.1 T.2.2 512).2.1 (txt T.2.1 T.2.2 512).2.2) (hu : Upd b W w1) :
    (w1.cell? ⟨g, 8, none⟩ = some (.string T.1.bp) ∧ w1.frozen? ⟨g, 8, none⟩ = false) ∧ BxC (w1.setCell ⟨g, 8, none⟩ (.string (txt T.2.1 T.2.2 512).1)) g (Sg.P.read T).1 ∧ BxC (w1.setCell ⟨g, 8, none⟩ (.string (txt T.2.1 T.2.2 512).1)) w0.heap.size (Cm.zero 0) ∧ Mod b w0 (w1.setCell ⟨g, 8, none⟩ (.string (txt T.2.1 T.2.2 512).1)) ∧ Rd (w1.setCell ⟨g, 8, none⟩ (.string (txt T.2.1 T.2.2 512).1)) b (Sg.P.read T).2.1 (Sg.P.read T).2.2 := by
  have h := stR .P { Cm.zero 0 with bp := (txt T.2.1 T.2.2 512).1 } hT hZ hM hg hb hu rfl
  exact ⟨⟨h.k, h.f⟩, h.T1, h.Z, h.M, hr.upd ((Upd.refl g _).setCell _) (by omega)⟩
theorem st_Q {w0 W w1 : World} {b g : Nat} {T : Cm × ByteArray × Int} (hT : BxC W g T.1) (hZ : BxC W w0.heap.size (Cm.zero 0)) (hM : Mod b w0 W) (hg : g = w0.heap.size + 1) (hb : b < w0.heap.size) (hr : Rd w1 b (txt T.2.1 T.2.2 32).2.1 (txt T.2.1 T.2.2 32).2.2) (hu : Upd b W w1) :
    (w1.cell? ⟨g, 9, none⟩ = some (.string T.1.bq) ∧ w1.frozen? ⟨g, 9, none⟩ = false) ∧ BxC (w1.setCell ⟨g, 9, none⟩ (.string (txt T.2.1 T.2.2 32).1)) g (Sg.Q.read T).1 ∧ BxC (w1.setCell ⟨g, 9, none⟩ (.string (txt T.2.1 T.2.2 32).1)) w0.heap.size (Cm.zero 0) ∧ Mod b w0 (w1.setCell ⟨g, 9, none⟩ (.string (txt T.2.1 T.2.2 32).1)) ∧ Rd (w1.setCell ⟨g, 9, none⟩ (.string (txt T.2.1 T.2.2 32).1)) b (Sg.Q.read T).2.1 (Sg.Q.read T).2.2 := by
  have h := stR .Q { Cm.zero 0 with bq := (txt T.2.1 T.2.2 32).1 } hT hZ hM hg hb hu rfl
  exact ⟨⟨h.k, h.f⟩, h.T1, h.Z, h.M, hr.upd ((Upd.refl g _).setCell _) (by omega)⟩
theorem st_e {w0 W w1 : World} {b g : Nat} {T : Cm × ByteArray × Int} (hT : BxC W g T.1) (hZ : BxC W w0.heap.size (Cm.zero 0)) (hM : Mod b w0 W) (hg : g = w0.heap.size + 1) (hb : b < w0.heap.size) (hr : Rd w1 b (txt T.2.1 T.2.2 32).2.1 (txt T.2.1 T.2.2 32).2.2) (hu : Upd b W w1) :
    (w1.cell? ⟨g, 10, none⟩ = some (.string T.1.ex) ∧ w1.frozen? ⟨g, 10, none⟩ = false) ∧ BxC (w1.setCell ⟨g, 10, none⟩ (.string (txt T.2.1 T.2.2 32).1)) g (Sg.e.read T).1 ∧ BxC (w1.setCell ⟨g, 10, none⟩ (.string (txt T.2.1 T.2.2 32).1)) w0.heap.size (Cm.zero 0) ∧ Mod b w0 (w1.setCell ⟨g, 10, none⟩ (.string (txt T.2.1 T.2.2 32).1)) ∧ Rd (w1.setCell ⟨g, 10, none⟩ (.string (txt T.2.1 T.2.2 32).1)) b (Sg.e.read T).2.1 (Sg.e.read T).2.2 := by
  have h := stR .e { Cm.zero 0 with ex := (txt T.2.1 T.2.2 32).1 } hT hZ hM hg hb hu rfl
  exact ⟨⟨h.k, h.f⟩, h.T1, h.Z, h.M, hr.upd ((Upd.refl g _).setCell _) (by omega)⟩
theorem st_k {w0 W w1 : World} {b g : Nat} {T : Cm × ByteArray × Int} (hT : BxC W g T.1) (hZ : BxC W w0.heap.size (Cm.zero 0)) (hM : Mod b w0 W) (hg : g = w0.heap.size + 1) (hb : b < w0.heap.size) (hr : Rd w1 b (txt T.2.1 T.2.2 512).2.1 (txt T.2.1 T.2.2 512).2.2) (hu : Upd b W w1) :
    (w1.cell? ⟨g, 11, none⟩ = some (.string T.1.key) ∧ w1.frozen? ⟨g, 11, none⟩ = false) ∧ BxC (w1.setCell ⟨g, 11, none⟩ (.string (txt T.2.1 T.2.2 512).1)) g (Sg.k.read T).1 ∧ BxC (w1.setCell ⟨g, 11, none⟩ (.string (txt T.2.1 T.2.2 512).1)) w0.heap.size (Cm.zero 0) ∧ Mod b w0 (w1.setCell ⟨g, 11, none⟩ (.string (txt T.2.1 T.2.2 512).1)) ∧ Rd (w1.setCell ⟨g, 11, none⟩ (.string (txt T.2.1 T.2.2 512).1)) b (Sg.k.read T).2.1 (Sg.k.read T).2.2 := by
  have h := stR .k { Cm.zero 0 with key := (txt T.2.1 T.2.2 512).1 } hT hZ hM hg hb hu rfl
  exact ⟨⟨h.k, h.f⟩, h.T1, h.Z, h.M, hr.upd ((Upd.refl g _).setCell _) (by omega)⟩
theorem st_b {w0 W w1 : World} {b g : Nat} {T : Cm × ByteArray × Int} (hT : BxC W g T.1) (hZ : BxC W w0.heap.size (Cm.zero 0)) (hM : Mod b w0 W) (hg : g = w0.heap.size + 1) (hb : b < w0.heap.size) (hr : Rd w1 b (txt T.2.1 T.2.2 32768).2.1 (txt T.2.1 T.2.2 32768).2.2) (hu : Upd b W w1) :
    (w1.cell? ⟨g, 12, none⟩ = some (.string T.1.body) ∧ w1.frozen? ⟨g, 12, none⟩ = false) ∧ BxC (w1.setCell ⟨g, 12, none⟩ (.string (txt T.2.1 T.2.2 32768).1)) g (Sg.b.read T).1 ∧ BxC (w1.setCell ⟨g, 12, none⟩ (.string (txt T.2.1 T.2.2 32768).1)) w0.heap.size (Cm.zero 0) ∧ Mod b w0 (w1.setCell ⟨g, 12, none⟩ (.string (txt T.2.1 T.2.2 32768).1)) ∧ Rd (w1.setCell ⟨g, 12, none⟩ (.string (txt T.2.1 T.2.2 32768).1)) b (Sg.b.read T).2.1 (Sg.b.read T).2.2 := by
  have h := stR .b { Cm.zero 0 with body := (txt T.2.1 T.2.2 32768).1 } hT hZ hM hg hb hu rfl
  exact ⟨⟨h.k, h.f⟩, h.T1, h.Z, h.M, hr.upd ((Upd.refl g _).setCell _) (by omega)⟩
theorem st_m {w0 W w1 : World} {b g : Nat} {T : Cm × ByteArray × Int} (hT : BxC W g T.1) (hZ : BxC W w0.heap.size (Cm.zero 0)) (hM : Mod b w0 W) (hg : g = w0.heap.size + 1) (hb : b < w0.heap.size) (hr : Rd w1 b (tk T.2.1 T.2.2 4).2.1 (tk T.2.1 T.2.2 4).2.2) (hu : Upd b W w1) :
    (w1.cell? ⟨g, 2, none⟩ = some (.int .u32 T.1.most) ∧ w1.frozen? ⟨g, 2, none⟩ = false) ∧ BxC (w1.setCell ⟨g, 2, none⟩ (.int .u32 (Oc.val (tk T.2.1 T.2.2 4).1.data.toList : Nat))) g (Sg.m.read T).1 ∧ BxC (w1.setCell ⟨g, 2, none⟩ (.int .u32 (Oc.val (tk T.2.1 T.2.2 4).1.data.toList : Nat))) w0.heap.size (Cm.zero 0) ∧ Mod b w0 (w1.setCell ⟨g, 2, none⟩ (.int .u32 (Oc.val (tk T.2.1 T.2.2 4).1.data.toList : Nat))) ∧ Rd (w1.setCell ⟨g, 2, none⟩ (.int .u32 (Oc.val (tk T.2.1 T.2.2 4).1.data.toList : Nat))) b (Sg.m.read T).2.1 (Sg.m.read T).2.2 := by
  have h := stR .m { Cm.zero 0 with most := Oc.val (tk T.2.1 T.2.2 4).1.data.toList } hT hZ hM hg hb hu rfl
  exact ⟨⟨h.k, h.f⟩, h.T1, h.Z, h.M, hr.upd ((Upd.refl g _).setCell _) (by omega)⟩
theorem st_r {w0 W w1 : World} {b g : Nat} {T : Cm × ByteArray × Int} (hT : BxC W g T.1) (hZ : BxC W w0.heap.size (Cm.zero 0)) (hM : Mod b w0 W) (hg : g = w0.heap.size + 1) (hb : b < w0.heap.size) (hr : Rd w1 b (tk T.2.1 T.2.2 4).2.1 (tk T.2.1 T.2.2 4).2.2) (hu : Upd b W w1) :
    (w1.cell? ⟨g, 4, none⟩ = some (.int .u32 T.1.tries) ∧ w1.frozen? ⟨g, 4, none⟩ = false) ∧ BxC (w1.setCell ⟨g, 4, none⟩ (.int .u32 (Oc.val (tk T.2.1 T.2.2 4).1.data.toList : Nat))) g (Sg.r.read T).1 ∧ BxC (w1.setCell ⟨g, 4, none⟩ (.int .u32 (Oc.val (tk T.2.1 T.2.2 4).1.data.toList : Nat))) w0.heap.size (Cm.zero 0) ∧ Mod b w0 (w1.setCell ⟨g, 4, none⟩ (.int .u32 (Oc.val (tk T.2.1 T.2.2 4).1.data.toList : Nat))) ∧ Rd (w1.setCell ⟨g, 4, none⟩ (.int .u32 (Oc.val (tk T.2.1 T.2.2 4).1.data.toList : Nat))) b (Sg.r.read T).2.1 (Sg.r.read T).2.2 := by
  have h := stR .r { Cm.zero 0 with tries := Oc.val (tk T.2.1 T.2.2 4).1.data.toList } hT hZ hM hg hb hu rfl
  exact ⟨⟨h.k, h.f⟩, h.T1, h.Z, h.M, hr.upd ((Upd.refl g _).setCell _) (by omega)⟩
theorem st_l {w0 W w1 : World} {b g : Nat} {T : Cm × ByteArray × Int} (hT : BxC W g T.1) (hZ : BxC W w0.heap.size (Cm.zero 0)) (hM : Mod b w0 W) (hg : g = w0.heap.size + 1) (hb : b < w0.heap.size) (hr : Rd w1 b (tk T.2.1 T.2.2 8).2.1 (tk T.2.1 T.2.2 8).2.2) (hu : Upd b W w1) :
    (w1.cell? ⟨g, 3, none⟩ = some (.int .u64 T.1.ttl) ∧ w1.frozen? ⟨g, 3, none⟩ = false) ∧ BxC (w1.setCell ⟨g, 3, none⟩ (.int .u64 (Oc.val (tk T.2.1 T.2.2 8).1.data.toList : Nat))) g (Sg.l.read T).1 ∧ BxC (w1.setCell ⟨g, 3, none⟩ (.int .u64 (Oc.val (tk T.2.1 T.2.2 8).1.data.toList : Nat))) w0.heap.size (Cm.zero 0) ∧ Mod b w0 (w1.setCell ⟨g, 3, none⟩ (.int .u64 (Oc.val (tk T.2.1 T.2.2 8).1.data.toList : Nat))) ∧ Rd (w1.setCell ⟨g, 3, none⟩ (.int .u64 (Oc.val (tk T.2.1 T.2.2 8).1.data.toList : Nat))) b (Sg.l.read T).2.1 (Sg.l.read T).2.2 := by
  have h := stR .l { Cm.zero 0 with ttl := Oc.val (tk T.2.1 T.2.2 8).1.data.toList } hT hZ hM hg hb hu rfl
  exact ⟨⟨h.k, h.f⟩, h.T1, h.Z, h.M, hr.upd ((Upd.refl g _).setCell _) (by omega)⟩
theorem st_i {w0 W w1 : World} {b g : Nat} {T : Cm × ByteArray × Int} (hT : BxC W g T.1) (hZ : BxC W w0.heap.size (Cm.zero 0)) (hM : Mod b w0 W) (hg : g = w0.heap.size + 1) (hb : b < w0.heap.size) (hr : Rd w1 b (tk T.2.1 T.2.2 8).2.1 (tk T.2.1 T.2.2 8).2.2) (hu : Upd b W w1) :
    (w1.cell? ⟨g, 13, none⟩ = some (.int .u64 T.1.id) ∧ w1.frozen? ⟨g, 13, none⟩ = false) ∧ BxC (w1.setCell ⟨g, 13, none⟩ (.int .u64 (Oc.val (tk T.2.1 T.2.2 8).1.data.toList : Nat))) g (Sg.i.read T).1 ∧ BxC (w1.setCell ⟨g, 13, none⟩ (.int .u64 (Oc.val (tk T.2.1 T.2.2 8).1.data.toList : Nat))) w0.heap.size (Cm.zero 0) ∧ Mod b w0 (w1.setCell ⟨g, 13, none⟩ (.int .u64 (Oc.val (tk T.2.1 T.2.2 8).1.data.toList : Nat))) ∧ Rd (w1.setCell ⟨g, 13, none⟩ (.int .u64 (Oc.val (tk T.2.1 T.2.2 8).1.data.toList : Nat))) b (Sg.i.read T).2.1 (Sg.i.read T).2.2 := by
  have h := stR .i { Cm.zero 0 with id := Oc.val (tk T.2.1 T.2.2 8).1.data.toList } hT hZ hM hg hb hu rfl
  exact ⟨⟨h.k, h.f⟩, h.T1, h.Z, h.M, hr.upd ((Upd.refl g _).setCell _) (by omega)⟩
theorem st_o {w0 W w1 : World} {b g : Nat} {T : Cm × ByteArray × Int} (hT : BxC W g T.1) (hZ : BxC W w0.heap.size (Cm.zero 0)) (hM : Mod b w0 W) (hg : g = w0.heap.size + 1) (hb : b < w0.heap.size) (hr : Rd w1 b (tk T.2.1 T.2.2 8).2.1 (tk T.2.1 T.2.2 8).2.2) (hu : Upd b W w1) :
    (w1.cell? ⟨g, 14, none⟩ = some (.int .u64 T.1.token) ∧ w1.frozen? ⟨g, 14, none⟩ = false) ∧ BxC (w1.setCell ⟨g, 14, none⟩ (.int .u64 (Oc.val (tk T.2.1 T.2.2 8).1.data.toList : Nat))) g (Sg.o.read T).1 ∧ BxC (w1.setCell ⟨g, 14, none⟩ (.int .u64 (Oc.val (tk T.2.1 T.2.2 8).1.data.toList : Nat))) w0.heap.size (Cm.zero 0) ∧ Mod b w0 (w1.setCell ⟨g, 14, none⟩ (.int .u64 (Oc.val (tk T.2.1 T.2.2 8).1.data.toList : Nat))) ∧ Rd (w1.setCell ⟨g, 14, none⟩ (.int .u64 (Oc.val (tk T.2.1 T.2.2 8).1.data.toList : Nat))) b (Sg.o.read T).2.1 (Sg.o.read T).2.2 := by
  have h := stR .o { Cm.zero 0 with token := Oc.val (tk T.2.1 T.2.2 8).1.data.toList } hT hZ hM hg hb hu rfl
  exact ⟨⟨h.k, h.f⟩, h.T1, h.Z, h.M, hr.upd ((Upd.refl g _).setCell _) (by omega)⟩
theorem st_n {w0 W w1 : World} {b g : Nat} {T : Cm × ByteArray × Int} (hT : BxC W g T.1) (hZ : BxC W w0.heap.size (Cm.zero 0)) (hM : Mod b w0 W) (hg : g = w0.heap.size + 1) (hb : b < w0.heap.size) (hr : Rd w1 b (tk T.2.1 T.2.2 8).2.1 (tk T.2.1 T.2.2 8).2.2) (hu : Upd b W w1) :
    (w1.cell? ⟨g, 15, none⟩ = some (.int .u64 T.1.n) ∧ w1.frozen? ⟨g, 15, none⟩ = false) ∧ BxC (w1.setCell ⟨g, 15, none⟩ (.int .u64 (Oc.val (tk T.2.1 T.2.2 8).1.data.toList : Nat))) g (Sg.n.read T).1 ∧ BxC (w1.setCell ⟨g, 15, none⟩ (.int .u64 (Oc.val (tk T.2.1 T.2.2 8).1.data.toList : Nat))) w0.heap.size (Cm.zero 0) ∧ Mod b w0 (w1.setCell ⟨g, 15, none⟩ (.int .u64 (Oc.val (tk T.2.1 T.2.2 8).1.data.toList : Nat))) ∧ Rd (w1.setCell ⟨g, 15, none⟩ (.int .u64 (Oc.val (tk T.2.1 T.2.2 8).1.data.toList : Nat))) b (Sg.n.read T).2.1 (Sg.n.read T).2.2 := by
  have h := stR .n { Cm.zero 0 with n := Oc.val (tk T.2.1 T.2.2 8).1.data.toList } hT hZ hM hg hb hu rfl
  exact ⟨⟨h.k, h.f⟩, h.T1, h.Z, h.M, hr.upd ((Upd.refl g _).setCell _) (by omega)⟩
theorem st_t {w0 W w1 : World} {b g : Nat} {T : Cm × ByteArray × Int} (hT : BxC W g T.1) (hZ : BxC W w0.heap.size (Cm.zero 0)) (hM : Mod b w0 W) (hg : g = w0.heap.size + 1) (hb : b < w0.heap.size) (hr : Rd w1 b (tk T.2.1 T.2.2 8).2.1 (tk T.2.1 T.2.2 8).2.2) (hu : Upd b W w1) :
    (w1.cell? ⟨g, 16, none⟩ = some (.int .u64 T.1.time) ∧ w1.frozen? ⟨g, 16, none⟩ = false) ∧ BxC (w1.setCell ⟨g, 16, none⟩ (.int .u64 (Oc.val (tk T.2.1 T.2.2 8).1.data.toList : Nat))) g (Sg.t.read T).1 ∧ BxC (w1.setCell ⟨g, 16, none⟩ (.int .u64 (Oc.val (tk T.2.1 T.2.2 8).1.data.toList : Nat))) w0.heap.size (Cm.zero 0) ∧ Mod b w0 (w1.setCell ⟨g, 16, none⟩ (.int .u64 (Oc.val (tk T.2.1 T.2.2 8).1.data.toList : Nat))) ∧ Rd (w1.setCell ⟨g, 16, none⟩ (.int .u64 (Oc.val (tk T.2.1 T.2.2 8).1.data.toList : Nat))) b (Sg.t.read T).2.1 (Sg.t.read T).2.2 := by
  have h := stR .t { Cm.zero 0 with time := Oc.val (tk T.2.1 T.2.2 8).1.data.toList } hT hZ hM hg hb hu rfl
  exact ⟨⟨h.k, h.f⟩, h.T1, h.Z, h.M, hr.upd ((Upd.refl g _).setCell _) (by omega)⟩
theorem st_K {w0 W w1 : World} {b g : Nat} {T : Cm × ByteArray × Int} (hT : BxC W g T.1) (hZ : BxC W w0.heap.size (Cm.zero 0)) (hM : Mod b w0 W) (hg : g = w0.heap.size + 1) (hb : b < w0.heap.size) (hr : Rd w1 b (tk T.2.1 T.2.2 1).2.1 (tk T.2.1 T.2.2 1).2.2) (hu : Upd b W w1) :
    (w1.cell? ⟨g, 7, none⟩ = some (.int .i64 T.1.bk) ∧ w1.frozen? ⟨g, 7, none⟩ = false) ∧ BxC (w1.setCell ⟨g, 7, none⟩ (.int .i64 (Oc.val (tk T.2.1 T.2.2 1).1.data.toList : Nat))) g (Sg.K.read T).1 ∧ BxC (w1.setCell ⟨g, 7, none⟩ (.int .i64 (Oc.val (tk T.2.1 T.2.2 1).1.data.toList : Nat))) w0.heap.size (Cm.zero 0) ∧ Mod b w0 (w1.setCell ⟨g, 7, none⟩ (.int .i64 (Oc.val (tk T.2.1 T.2.2 1).1.data.toList : Nat))) ∧ Rd (w1.setCell ⟨g, 7, none⟩ (.int .i64 (Oc.val (tk T.2.1 T.2.2 1).1.data.toList : Nat))) b (Sg.K.read T).2.1 (Sg.K.read T).2.2 := by
  have h := stR .K { Cm.zero 0 with bk := (Oc.val (tk T.2.1 T.2.2 1).1.data.toList : Nat) } hT hZ hM hg hb hu rfl
  exact ⟨⟨h.k, h.f⟩, h.T1, h.Z, h.M, hr.upd ((Upd.refl g _).setCell _) (by omega)⟩
theorem st_x {w0 W w1 : World} {b g : Nat} {T : Cm × ByteArray × Int} (hT : BxC W g T.1) (hZ : BxC W w0.heap.size (Cm.zero 0)) (hM : Mod b w0 W) (hg : g = w0.heap.size + 1) (hb : b < w0.heap.size) (hr : Rd w1 b (tk T.2.1 T.2.2 1).2.1 (tk T.2.1 T.2.2 1).2.2) (hu : Upd b W w1) :
    (w1.cell? ⟨g, 17, none⟩ = some (.bool T.1.dead) ∧ w1.frozen? ⟨g, 17, none⟩ = false) ∧ BxC (w1.setCell ⟨g, 17, none⟩ (.bool (decide (Oc.val (tk T.2.1 T.2.2 1).1.data.toList = 1)))) g (Sg.x.read T).1 ∧ BxC (w1.setCell ⟨g, 17, none⟩ (.bool (decide (Oc.val (tk T.2.1 T.2.2 1).1.data.toList = 1)))) w0.heap.size (Cm.zero 0) ∧ Mod b w0 (w1.setCell ⟨g, 17, none⟩ (.bool (decide (Oc.val (tk T.2.1 T.2.2 1).1.data.toList = 1)))) ∧ Rd (w1.setCell ⟨g, 17, none⟩ (.bool (decide (Oc.val (tk T.2.1 T.2.2 1).1.data.toList = 1)))) b (tk T.2.1 T.2.2 1).2.1 (tk T.2.1 T.2.2 1).2.2 := by
  have h := stR .x { Cm.zero 0 with dead := decide (Oc.val (tk T.2.1 T.2.2 1).1.data.toList = 1) } hT hZ hM hg hb hu rfl
  exact ⟨⟨h.k, h.f⟩, h.T1, h.Z, h.M, hr.upd ((Upd.refl g _).setCell _) (by omega)⟩
/-- What there is ahead of a kind's parts. -/
theorem rr_start (k : Int) {w w1 : World} {b : Nat} {r : ByteArray} (hb : b < w.heap.size) (hr : Rd w1 b r 0) (hu : Upd b ((w.alloc (objR (Cm.zero 0))).alloc (objR (Cm.zero 0))) w1) :
    w1.cell? ⟨w.heap.size + 1, 0, none⟩ = some (.int .i64 0) ∧ w1.frozen? ⟨w.heap.size + 1, 0, none⟩ = false ∧ BxC (w1.setCell ⟨w.heap.size + 1, 0, none⟩ (.int .i64 k)) (w.heap.size + 1) (Cm.zero k) ∧ BxC (w1.setCell ⟨w.heap.size + 1, 0, none⟩ (.int .i64 k)) w.heap.size (Cm.zero 0) ∧ Mod b w (w1.setCell ⟨w.heap.size + 1, 0, none⟩ (.int .i64 k)) ∧ Rd (w1.setCell ⟨w.heap.size + 1, 0, none⟩ (.int .i64 k)) b r 0 := by
  have h1 := ((BxC.newR w (Cm.zero 0)).alloc (objR (Cm.zero 0))).upd hu (by omega)
  have h2 := BxC.newR (w.alloc (objR (Cm.zero 0))) (Cm.zero 0)
  rw [World.size_alloc] at h2
  have h2 := h2.upd hu (by omega)
  have hU : Upd (w.heap.size + 1) w1 (w1.setCell ⟨w.heap.size + 1, 0, none⟩ (.int .i64 k)) := (Upd.refl _ _).setCell _
  exact ⟨h2.cell 0 _ rfl, h2.free 0 (by decide), h2.kind k, h1.upd hU (by omega), mod_upd' ((((Mod.refl b w).alloc _).alloc _).upd hu) (by omega) hU, hr.upd hU (by omega)⟩
end Go.Proofs.YtoekggbbkcmknaaGreatDoor
