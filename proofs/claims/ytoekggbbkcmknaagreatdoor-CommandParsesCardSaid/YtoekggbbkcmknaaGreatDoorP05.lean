/- Texts of one seat, merged. -/
import Derived.Test.YtoekggbbkcmknaaGreatDoorP04
import Derived.Laws.OwnMore
import Derived.Defers
import Derived.Recover
import Derived.Test.YtoekggbbkcmknaaGreatDoorP02
import Derived.Maps.AppendAt
import Derived.Laws.AppendOwnNone
import Derived.Lib.Walk
import Derived.OwnWalk
set_option maxRecDepth 100000
set_option maxHeartbeats 4000000
set_option linter.unusedVariables false
/- A builder beside an iterator; a command's bytes. -/
namespace Go.Proofs.YtoekggbbkcmknaaGreatDoor
open Go.RowKit
attribute [local go_sem ↓] zeroC_eq newC_eq loadC_eq storeC_eq buildC_eq zeroR_eq newR_eq loadR_eq storeR_eq buildR_eq
attribute [local go_sem] run_zeroC run_newC run_buildC0 run_buildC1 run_neqC run_eqlC run_guardC run_zeroR run_newR run_buildR0 run_buildR1 run_neqR run_eqlR run_guardR
theorem copyCheck_k (B b : Nat) (bs : List Value) (w : World) (h : Lib.IsBuilder 77 5 B b bs w) :
    Calls Tryz.prog 55 #[.pointer (some ⟨b, 0, none⟩)] w fun e w' => e = .returned (.tuple #[]) ∧ Lib.BuilderAt 77 5 B b (.pointer (some ⟨b, 0, none⟩)) bs w' ∧ Below B w w' ∧ Lib.OthersKept 5 (some b) w w' := by
  rcases h with h | h
  · refine (copyCheck_fresh b w h.cell0 h.shape h.frozen0).mono ?_
    rintro e w' ⟨rfl, rfl⟩
    exact ⟨rfl, h.used _, (Below.refl B w).setCell (p := ⟨b, 0, none⟩) h.1 _, (Lib.OthersKept.refl 5 (some b) w).setCell _ rfl _⟩
  · refine (copyCheck_used b w h.cell0).mono ?_
    rintro e w' ⟨rfl, rfl⟩
    exact ⟨rfl, h, Below.refl B _, Lib.OthersKept.refl _ _ _⟩
theorem writeString_k (B b : Nat) (bs : List Value) (s : ByteArray) (w : World) (h : Lib.IsBuilder 77 5 B b bs w) (hlen : bs.length + s.size ≤ 140737488355328) (hBw : B ≤ w.heap.size) :
    Calls Tryz.prog 29 #[.pointer (some ⟨b, 0, none⟩), .string s] w fun e w' => e = .returned (.tuple #[.int .i64 s.size, .nilIface]) ∧ Lib.BuilderAt 77 5 B b (.pointer (some ⟨b, 0, none⟩)) (bs ++ Lib.strCells s) w' ∧ Below B w w' ∧ Lib.OthersKept 5 (some b) w w' := by
  obtain ⟨i0, hi, hz0, hz1, hz2⟩ := info_parts infoByte
  go_enter Tryz.func29, Tryz.ntmps29
  go_wp2_with (go_at_call 55; refine (copyCheck_k B b bs _ h).mono ?_)
  rintro e w1 ⟨rfl, ⟨hB, v, hbk, hown, hne⟩, hb1, hk1⟩
  have hsz := hb1.size
  have c0 : w1.cell? ⟨b, 0, none⟩ = some (.pointer (some ⟨b, 0, none⟩)) := by rw [Lib.cell_of_heap hbk]; rfl
  have c1 : w1.cell? ⟨b, 1, none⟩ = some v := by rw [Lib.cell_of_heap hbk]; rfl
  have HK1 := Lib.hid hk1
  clear hk1
  go_wp2_with (at_builtin; refine Lib.wpList_append_own_string _ rfl _ _ 70 9 rfl B 5 i0 Tryz.underlying70 Tryz.underlying9 hi hz0 hz1 hz2 _ _ _ rfl hown s rfl ?c3 ?c4 ?c5 ?_)
  case c3 => unfold maxLen; omega
  case c4 => omega
  case c5 => omega
  intro v' w2 hown' hgrow _
  have hlt : b < w1.heap.size := by
    rcases Nat.lt_or_ge b w1.heap.size with h' | h'
    · exact h'
    · simp [Array.getElem?_eq_none h'] at hbk
  have hb2 : w2.heap[b]? = some (.cells #[.pointer (some ⟨b, 0, none⟩), v] 77 (0, 0)) := by
    rw [hgrow.block b hlt (fun e => hne e.symm)]
    exact hbk
  have d0 : w2.cell? ⟨b, 0, none⟩ = some (.pointer (some ⟨b, 0, none⟩)) := by rw [Lib.cell_of_heap hb2]; rfl
  have d1 : w2.cell? ⟨b, 1, none⟩ = some v := by rw [Lib.cell_of_heap hb2]; rfl
  have g1 : w2.frozen? ⟨b, 1, none⟩ = false := Lib.frozen_of_heap hb2 1
  obtain ⟨ao, m, cap, rfl⟩ : ∃ ao m cap, v' = .slice ao m cap := by
    rcases hown'.2 with ⟨hv, _⟩ | ⟨g, cap, cur, hv, _⟩
    · exact ⟨_, _, _, hv⟩
    · exact ⟨_, _, _, hv⟩
  have HK2 := Lib.hid (HK1.out.grown hgrow (fun g hg => by
    rcases hown.2 with ⟨rfl, _⟩ | ⟨g', cap, cur, rfl, _, hh, _⟩
    · cases hg
    · cases hg; exact ⟨_, _, hh⟩))
  go_wp2
  go_ret2
  refine ⟨rfl, ?_, ?_, ?_⟩
  · exact Lib.BuilderAt.put (T := 77) (e := 5) hB hb2 (bs' := bs ++ Lib.strCells s) (by simpa [Lib.strCells_length] using hown') (by decide)
  · exact (hb1.grown hgrow (by omega) (fun k hk => (hown.lt k hk).1)).setCell (p := ⟨b, 1, none⟩) hB _
  · exact HK2.out.setCell _ rfl _
theorem builder_iter {w : World} {B b k : Nat} {bs : List Value} {s : ByteArray} {m : Nat} (h : Lib.IsBuilder 77 5 B b bs w) (hk : w.heap[k]? = some (.stringIter s m)) (m' : Nat) : Lib.IsBuilder 77 5 B b bs (w.iterAt k s m') := by
  have go : ∀ p, Lib.BuilderAt 77 5 B b p bs w → Lib.BuilderAt 77 5 B b p bs (w.iterAt k s m') := by
    rintro p ⟨h1, v, h2, h3, h4⟩
    have hbk : b ≠ k := by rintro rfl; rw [hk] at h2; cases h2
    refine ⟨h1, v, by rw [Lib.iterAt_other _ _ _ _ _ hbk, h2], ?_, h4⟩
    obtain ⟨e0, e1⟩ := h3
    refine ⟨e0, ?_⟩
    rcases e1 with e1 | ⟨g, cap, cur, hv, hg, hh, rest⟩
    · exact .inl e1
    · have hgk : g ≠ k := by rintro rfl; rw [hk] at hh; cases hh
      exact .inr ⟨g, cap, cur, hv, hg, by rw [Lib.iterAt_other _ _ _ _ _ hgk, hh], rest⟩
  rcases h with h | h
  · exact .inl (go _ h)
  · exact .inr (go _ h)
theorem enc_le (s : Sg) (c : Cm) (h : s.long c = false) : (s.enc c).length ≤ 32772 := by
  have tb : ∀ (t : ByteArray) (n : Nat), decide (n < t.size) = false → n ≤ 32768 → (Sg.txb t).length ≤ 32772 := by
    intro t n h1 h2
    have h3 := of_decide_eq_false h1
    unfold Sg.txb
    rw [List.length_append, Oc.big_length]
    show 4 + t.size ≤ _
    omega
  cases s
  · exact tb c.qn 32 h (by decide)
  · exact Nat.le_trans (Nat.le_of_eq (Oc.big_length 4 _)) (by decide)
  · exact Nat.le_trans (Nat.le_of_eq (Oc.big_length 8 _)) (by decide)
  · exact Nat.le_trans (Nat.le_of_eq (Oc.big_length 4 _)) (by decide)
  · exact tb c.qd 32 h (by decide)
  · exact tb c.bx 32 h (by decide)
  · exact Nat.le_trans (Nat.le_of_eq (Oc.big_length 1 _)) (by decide)
  · exact tb c.bp 512 h (by decide)
  · exact tb c.bq 32 h (by decide)
  · exact tb c.ex 32 h (by decide)
  · exact tb c.key 512 h (by decide)
  · exact tb c.body 32768 h (by decide)
  · exact Nat.le_trans (Nat.le_of_eq (Oc.big_length 8 _)) (by decide)
  · exact Nat.le_trans (Nat.le_of_eq (Oc.big_length 8 _)) (by decide)
  · exact Nat.le_trans (Nat.le_of_eq (Oc.big_length 8 _)) (by decide)
  · exact Nat.le_trans (Nat.le_of_eq (Oc.big_length 8 _)) (by decide)
  · exact Nat.le_trans (Nat.le_of_eq (Oc.big_length 1 _)) (by decide)
theorem encL_le (c : Cm) : ∀ (l : List Sg), (∀ s ∈ l, s.long c = false) → (l.flatMap fun s => s.enc c).length ≤ 32772 * l.length
  | [], _ => Nat.zero_le _
  | s :: l, h => by
    rw [List.flatMap_cons, List.length_append, List.length_cons]
    have h1 := enc_le s c (h s (by simp))
    have h2 := encL_le c l (fun t' ht => h t' (by simp [ht]))
    omega
theorem form_le (k : Int) : (form k).length ≤ 5 := by
  unfold form
  repeat' split
  all_goals decide
set_option maxRecDepth 1000000 in
theorem put_any (c : Cm) (hk : 1 ≤ c.kind ∧ c.kind ≤ 13) (hok : c.ok) (hl : ∀ s ∈ form c.kind, s.long c = false) (w : World) (hF : Forms w) :
    Calls Tryz.prog 58 #[c.agg] w fun e w' => e = .returned (.string (str (encC c))) ∧ Below w.heap.size w w' := by
  obtain ⟨hk1, hk2⟩ := hk
  have hC0 := (BxC.newC w c).alloc (.cells #[.pointer none, .slice none 0 0] 77)
  have hk00 := hC0.cell 0 _ rfl
  have HF0 := Lib.hid ((hF.alloc (objC c)).alloc (.cells #[.pointer none, .slice none 0 0] 77))
  have HC0 := Lib.hid hC0
  have HOK := Lib.hid hok
  have HL := Lib.hid hl
  have HO := Lib.hid (fun W => one_at c.kind c.kind.toNat (by omega) (by omega) W)
  have HB0 := Lib.hid (builder2 w (objC c))
  clear hF hC0 hok hl
  go_enter Tryz.func58, Tryz.ntmps58
  go_wp2_with (first
    | (go_at_call 99; refine (HO.out _).mono ?_; rintro e w1 ⟨rfl, hb1⟩)
    | (go_at_call 29; refine (writeString_k (w.heap.size + 1) (w.heap.size + 1) [] _ _ (builder_below HB0.out hb1 (Nat.le_refl _)) (by rw [big_size]; simp) (by have := hb1.size; simp at this; omega)).mono ?_; rintro e w2 ⟨rfl, hbld, hb2, _⟩; have hC2 := (HC0.out.below hb1).below' hb2 (Nat.lt_succ_self _); have hk02 := hC2.cell 0 _ rfl; have hF2 := ((HF0.out.below hb1 HF0.out.lt).below hb2 (by omega)); have hf := hF2 c.kind hk1 hk2))
  have hsz2 : w.heap.size + 2 ≤ w2.heap.size := by have := hb1.size; have := hb2.size; simp at *; omega
  have HSZ := Lib.hid hsz2
  have HB2 := Lib.hid (((((Below.refl w.heap.size w).alloc (Nat.le_refl _) (objC c)).alloc (by simp) (.cells #[.pointer none, .slice none 0 0] 77)).trans (hb1.mono (by simp; omega))).trans (hb2.mono (Nat.le_succ _)))
  have HC2 := Lib.hid hC2
  have HBL : Hid (Lib.IsBuilder 77 5 (w.heap.size + 1) (w.heap.size + 1) (Lib.byteCells (Oc.big 1 c.kind.toNat)) w2) := by
    have := hbld
    rw [strCells_str, List.nil_append] at this
    exact .inr this
  clear hbld hb1 hb2 hC2 hk02 hF2 hf hsz2 hk00 HF0 HC0 HB0 HO
  go_loopg [] (form c.kind).length (fun n wr => ∃ m, m + n = (form c.kind).length ∧ Lib.IsBuilder 77 5 (w.heap.size + 1) (w.heap.size + 1) (Lib.byteCells (Oc.big 1 c.kind.toNat ++ ((form c.kind).take m).flatMap fun s => s.enc c)) wr ∧ BxC wr w.heap.size c ∧ wr.heap[w2.heap.size]? = some (.stringIter (formS c.kind) m) ∧ Below w.heap.size w wr)
  case atStart => exact ⟨0, by omega, by rw [List.take_zero, List.flatMap_nil, List.append_nil]; exact builder_below HBL.out ((Below.refl _ _).alloc (Nat.le_refl _) (.stringIter (formS c.kind) 0)) (Nat.le_refl _), HC2.out.iter _ _, iter_at _ _ _, iter_below HB2.out (by have := HSZ.out; omega) _ _⟩
  case round =>
    obtain ⟨m, hm, hD, hC, hI, hB⟩ := hrel
    have hsz := HSZ.out
    by_cases hlt : m < (form c.kind).length
    · obtain ⟨s, hs⟩ : ∃ s, (form c.kind)[m]? = some s := ⟨_, List.getElem?_eq_getElem hlt⟩
      have hnx : ∀ ty, (Instr.next (.pointer (some ⟨w2.heap.size, 0, none⟩)) true ty).run Tryz.prog wr = _ := fun ty => next_sign Tryz.prog wr _ _ m s ty hI hs
      have hu := iter_upd wr w2.heap.size (formS c.kind) (m + 1)
      have hI1 := Lib.iterAt_heap wr w2.heap.size (formS c.kind) m (m + 1) hI
      have HD := Lib.hid (builder_iter hD hI (m + 1))
      have HC := Lib.hid (hC.upd hu (by omega))
      have HB := Lib.hid (Lib.below_iterAt hB (k := w2.heap.size) (by omega) (formS c.kind) (m + 1))
      have HI := Lib.hid hI1
      have HL2 := Lib.hid (show w2.heap.size < (wr.iterAt w2.heap.size (formS c.kind) (m + 1)).heap.size from (Array.getElem?_eq_some_iff.1 hI1).1)
      have HS := Lib.hid hs
      have HM := Lib.hid hm
      have HLE := Lib.hid (encL_le c ((form c.kind).take m) (fun t' ht => HL.out t' (List.mem_of_mem_take ht)))
      have HFL := Lib.hid (form_le c.kind)
      have HE1 := Lib.hid (enc_le s c (HL.out s (List.mem_of_getElem? hs)))
      clear hD hC hI hB hI1 hs hu hm hlt hsz
      go_wp2_with (first
        | (go_at_call 46; refine (field_any s _).mono ?_; rintro e w4 ⟨P, rfl, ⟨fh, fl, fp, fg, ch, cl, cp, cg, rfl, ⟨_, _, e3, _⟩, _, _, hP, _⟩, hb⟩; have HD4 := Lib.hid (builder_below HD.out hb (Nat.le_refl _)); have HC4 := Lib.hid (HC.out.below hb); have HB4 := Lib.hid (HB.out.trans (hb.mono (by have := HL2.out; have := HSZ.out; omega))); have HI4 := Lib.hid ((hb.block _ HL2.out).trans HI.out); have HH := Lib.hid (fun (W' : World) (hW : W'.heap = w4.heap) (h2 : BxC W' w.heap.size c) => hP W' _ _ (Stay.heap hW) h2 HOK.out (HL.out s (List.mem_of_getElem? HS.out))); unfold Ent at e3; have p0 := fun W => fpart2 fh fl fp fg ch cl cp cg W; clear hP)
        | ((with_reducible refine (HH.out _ rfl HC4.out).mono ?_); rintro e w5 ⟨rfl, hb5⟩)
        | (go_at_call 29; refine (writeString_k (w.heap.size + 1) (w.heap.size + 1) _ _ _ (builder_below HD4.out hb5 (Nat.le_refl _)) ?_ ?_).mono ?_))
      case refine_1 =>
        rw [byteCells_len, str_size, List.length_append, Oc.big_length]
        have h1 := HLE.out
        have h2 := HFL.out
        have h3 := HE1.out
        rw [List.length_take] at h1
        omega
      case refine_2 => have := HL2.out; have := HSZ.out; have := hb.size; have := hb5.size; omega
      rintro e w6 ⟨rfl, hbld, hb6, hk6⟩
      have hD6 : Lib.IsBuilder 77 5 (w.heap.size + 1) (w.heap.size + 1) (Lib.byteCells (Oc.big 1 c.kind.toNat ++ ((form c.kind).take (m + 1)).flatMap fun s => s.enc c)) w6 := by
        rw [strCells_str, byteCells_app, List.append_assoc] at hbld
        rw [List.take_add_one, HS.out]
        simp only [Option.toList_some, List.flatMap_append, List.flatMap_cons, List.flatMap_nil, List.append_nil]
        exact .inr hbld
      have hI6 := hk6.iter ((hb5.block _ (Array.getElem?_eq_some_iff.1 HI4.out).1).trans HI4.out) (by have := HSZ.out; omega)
      have hC6 := (HC4.out.below hb5).below' hb6 (Nat.lt_succ_self _)
      have hB6 := (HB4.out.trans (hb5.mono (Below.size HB4.out))).trans (hb6.mono (Nat.le_succ _))
      have H6 := Lib.hid (And.intro hD6 (And.intro hC6 (And.intro hI6 hB6)))
      clear hbld hb6 hk6 hD6 hC6 hI6 hB6
      go_wp2
      go_roundg (gk - 1)
      case rel =>
        have hm1 := HM.out
        have hl1 := (List.getElem?_eq_some_iff.1 HS.out).1
        obtain ⟨h1, h2, h3, h4⟩ := H6.out
        exact ⟨m + 1, by omega, h1, h2, h3, h4⟩
      case measure =>
        have hm1 := HM.out
        have hl1 := (List.getElem?_eq_some_iff.1 HS.out).1
        omega
    · obtain rfl : m = (form c.kind).length := by omega
      rw [List.take_length] at hD
      have hnx : ∀ ty, (Instr.next (.pointer (some ⟨w2.heap.size, 0, none⟩)) true ty).run Tryz.prog wr = _ := fun ty => next_end Tryz.prog wr _ _ ty hI
      have HD := Lib.hid hD
      have HB := Lib.hid hB
      have HWS := Lib.hid (show w.heap.size + 1 ≤ wr.heap.size by have := hB.size; have := (Array.getElem?_eq_some_iff.1 hI).1; omega)
      clear hD hC hI hB hlt hm hsz
      go_wp2_with (go_at_call 31; refine (Tryz.Builder_String_any (w.heap.size + 1) (w.heap.size + 1) _ _ HD.out HWS.out).mono ?_; rintro e w6 ⟨rfl, hb6⟩)
      go_ret
      exact ⟨rfl, HB.out.trans (hb6.mono (Nat.le_succ _))⟩
end Go.Proofs.YtoekggbbkcmknaaGreatDoor
/- The command that stands next. -/
namespace Go.Proofs.YtoekggbbkcmknaaGreatDoor
open Go.RowKit
attribute [local go_sem ↓] zeroC_eq newC_eq loadC_eq storeC_eq buildC_eq zeroR_eq newR_eq loadR_eq storeR_eq buildR_eq
attribute [local go_sem] run_zeroC run_newC run_buildC0 run_buildC1 run_neqC run_eqlC run_guardC run_zeroR run_newR run_buildR0 run_buildR1 run_neqR run_eqlR run_guardR
theorem read_off {b g : Nat} {w W : World} (h0 : Mod b w W) (hg : w.heap.size ≤ g) {V : World} (h : OffL [g, b] W V) : Mod b w V :=
  ⟨h.os.trans h0.os, h.tape.trans h0.tape, h.output.trans h0.output, Nat.le_trans h0.size h.size, fun k hk hn => (h.block k (Nat.lt_of_lt_of_le hk h0.size) (by simp; omega)).trans (h0.block k hk hn)⟩
theorem mod_upd' {b g : Nat} {w W V : World} (h0 : Mod b w W) (hg : w.heap.size ≤ g) (h : Upd g W V) : Mod b w V :=
  ⟨h.os.trans h0.os, h.tape.trans h0.tape, h.output.trans h0.output, Nat.le_trans h0.size (Nat.le_of_eq h.size.symm), fun k hk hn => (h.block k (by omega)).trans (h0.block k hk hn)⟩
/-- What Read has laid ahead of the forms: its answer's box, and the command's. -/
theorem read_start (k : Int) {w w1 : World} {b : Nat} {r : ByteArray} {e : Int} (hb : b < w.heap.size) (hr : Rd w1 b r e) (hu : Upd b (w.alloc (objC (Cm.zero 0))) w1) :
    ∃ W, W = setFrom (w1.alloc (objC (Cm.zero 0))) w1.heap.size 0 (Cm.zero k).vals ∧ (storeC ⟨w.heap.size + 1, 0, none⟩ (Cm.zero k).agg).run Tryz.prog (w1.alloc (objC (Cm.zero 0))) = .ok () W ∧ w1.heap.size = w.heap.size + 1 ∧
      BxC W w.heap.size (Cm.zero 0) ∧ BxC W (w.heap.size + 1) (Cm.zero k) ∧ Rd W b r e ∧ Mod b w W ∧ W.heap.size = w.heap.size + 1 + 1 := by
  have hz : w1.heap.size = w.heap.size + 1 := by rw [hu.size]; simp
  have h1 : BxC w1 w.heap.size (Cm.zero 0) := (BxC.newC w (Cm.zero 0)).upd hu (by omega)
  have h2 := BxC.newC w1 (Cm.zero 0)
  have hs := h2.stored (Cm.zero k)
  have hm : Mod b w w1 := ((Mod.refl b w).alloc _).upd hu
  refine ⟨_, rfl, by rw [← hz]; exact run_storeC h2 _, hz, (h1.alloc _).upd hs.2 (by omega), by rw [← hz]; exact hs.1, (hr.alloc _).upd hs.2 (by omega), ?_, ?_⟩
  · exact mod_upd' (hm.alloc _) (by omega) hs.2
  · rw [hs.2.size]; simp [hz]
end Go.Proofs.YtoekggbbkcmknaaGreatDoor
/- Read: the command that stands next. -/
namespace Go.Proofs.YtoekggbbkcmknaaGreatDoor
open Go.RowKit
attribute [local go_sem ↓] zeroC_eq newC_eq loadC_eq storeC_eq buildC_eq zeroR_eq newR_eq loadR_eq storeR_eq buildR_eq
attribute [local go_sem] run_zeroC run_newC run_buildC0 run_buildC1 run_neqC run_eqlC run_guardC run_zeroR run_newR run_buildR0 run_buildR1 run_neqR run_eqlR run_guardR
theorem fold_read_snoc (l : List Sg) (m : Nat) (s : Sg) (T : Cm × ByteArray × Int) (h : l[m]? = some s) : readL (l.take (m + 1)) T = s.read (readL (l.take m) T) := fold_snoc (fun T s => s.read T) l m s T h
set_option maxRecDepth 1000000 in
set_option maxHeartbeats 1500000 in
theorem read_any (b : Nat) (bs : ByteArray) (e : Int) (w : World) (h : Rd w b bs e) (hF : Forms w) (h0 : 0 < b) :
    Calls Tryz.prog 18 #[.pointer (some ⟨b, 0, none⟩)] w fun x w' => x = .returned (readC bs e).1.agg ∧ Rd w' b (readC bs e).2.1 (readC bs e).2.2 ∧ Mod b w w' := by
  have hlt := h.lt
  have hv := Nat.lt_of_lt_of_le (Oc.val_lt (tk bs e 1).1.data.toList) (Nat.pow_le_pow_right (by omega) (tk_size bs e 1))
  unfold readC readR
  have HO := Lib.hid (one_rd b bs e _ (h.alloc (objC (Cm.zero 0))))
  simp only
  revert hv HO
  generalize tk bs e 1 = O
  obtain ⟨ob, r, e1⟩ := O
  intro hv HO
  simp only at hv HO ⊢
  revert hv HO
  generalize Oc.val ob.data.toList = kn
  intro hv HO
  have HLT := Lib.hid hlt
  have HF := Lib.hid hF
  clear h hF
  have HK := Lib.hid (fun W => known_any (kn : Int) W)
  by_cases hk : known (kn : Int) = true
  · rw [if_pos hk]
    rw [hk] at HK
    obtain ⟨hk1, hk2⟩ := known_iff.1 hk
    clear hk
    generalize hG : readL (form (kn : Int)) (Cm.zero (kn : Int), r, e1) = G
    have HG := Lib.hid hG
    clear hG
    generalize hA : (if G.2.2 = 0 then G else (Cm.zero 0, G.2.1, G.2.2)) = A
    have HA := Lib.hid hA
    clear hA
    go_enter Tryz.func18, Tryz.ntmps18
    go_wp2_with (first
      | (go_at_call 43; refine HO.out.mono ?_; rintro x w1 ⟨rfl, hr1, hu1⟩; obtain ⟨W, -, hst, hz, hZ, hT, hR, hM, hsz⟩ := read_start (kn : Int) HLT.out hr1 hu1; have hk0 := hT.cell 0 _ rfl; simp only [Cm.zero] at hk0)
      | (go_at_call 44; refine (HK.out _).mono ?_; rintro x w2 ⟨rfl, rfl⟩; have hf := (HF.out.keep (hM.block 0 HF.out.lt (by omega))) (kn : Int) hk1 hk2; rw [Int.toNat_natCast] at hf))
    have HSZ := Lib.hid hsz
    have HT := Lib.hid hT
    have HZ := Lib.hid hZ
    have HR := Lib.hid hR
    have HM := Lib.hid hM
    clear hst hk0 hf hT hZ hR hM hsz hz hr1 hu1 HF HK HO hv
    go_loopg [] (form (kn : Int)).length (fun n wr => ∃ m, m + n = (form (kn : Int)).length ∧ BxC wr (w.heap.size + 1) (readL ((form (kn : Int)).take m) (Cm.zero (kn : Int), r, e1)).1 ∧ Rd wr b (readL ((form (kn : Int)).take m) (Cm.zero (kn : Int), r, e1)).2.1 (readL ((form (kn : Int)).take m) (Cm.zero (kn : Int), r, e1)).2.2 ∧ BxC wr w.heap.size (Cm.zero 0) ∧ wr.heap[w.heap.size + 1 + 1]? = some (.stringIter (formS (kn : Int)) m) ∧ Mod b w wr)
    case atStart =>
      have hz0 : readL ((form (kn : Int)).take 0) (Cm.zero (kn : Int), r, e1) = (Cm.zero (kn : Int), r, e1) := by rw [List.take_zero]; rfl
      refine ⟨0, by omega, ?_, ?_, HZ.out.iter _ _, by rw [← HSZ.out]; exact iter_at _ _ _, HM.out.alloc _⟩
      · rw [hz0]; exact HT.out.iter _ _
      · rw [hz0]; exact HR.out.alloc _
    case round =>
      obtain ⟨m, hm, hT, hR, hZ, hI, hM⟩ := hrel
      have hsz := HSZ.out
      have hbl := HLT.out
      by_cases hlt : m < (form (kn : Int)).length
      · obtain ⟨s, hs⟩ : ∃ s, (form (kn : Int))[m]? = some s := ⟨_, List.getElem?_eq_getElem hlt⟩
        have hnx : ∀ ty, (Instr.next (.pointer (some ⟨w.heap.size + 1 + 1, 0, none⟩)) true ty).run Tryz.prog wr = _ := fun ty => next_sign Tryz.prog wr _ _ m s ty hI hs
        have hu := iter_upd wr (w.heap.size + 1 + 1) (formS (kn : Int)) (m + 1)
        have hI1 := Lib.iterAt_heap wr (w.heap.size + 1 + 1) (formS (kn : Int)) m (m + 1) hI
        have HS := Lib.hid hs
        have HMM := Lib.hid hm
        have HX := Lib.hid (fold_read_snoc (form (kn : Int)) m s (Cm.zero (kn : Int), r, e1) hs)
        revert hT hR HX
        generalize (readL ((form (kn : Int)).take m) (Cm.zero (kn : Int), r, e1)) = X
        obtain ⟨xc, xs, xe⟩ := X
        intro hT hR HX
        simp only at hT hR
        have HT := Lib.hid (hT.upd hu (by omega))
        have HR := Lib.hid (hR.upd hu (by omega))
        have HZ := Lib.hid (hZ.upd hu (by omega))
        have HM := Lib.hid (mod_upd' hM (by omega) hu)
        have HI := Lib.hid hI1
        have HL2 := Lib.hid (show w.heap.size + 1 + 1 < (wr.iterAt (w.heap.size + 1 + 1) (formS (kn : Int)) (m + 1)).heap.size from (Array.getElem?_eq_some_iff.1 hI1).1)
        clear hT hR hZ hI hM hI1 hs hu hm hlt hsz hbl
        go_wp2_with (first
          | (go_at_call 46; refine (field_any s _).mono ?_; rintro e w4 ⟨P, rfl, ⟨fh, fl, fp, fg, ch, cl, cp, cg, rfl, ⟨_, _, _, e4⟩, _, _, _, hGt⟩, hb⟩; have HT4 := Lib.hid (HT.out.below hb); have HR4 := Lib.hid (HR.out.below hb); have HZ4 := Lib.hid (HZ.out.below hb); have HM4 := Lib.hid (HM.out.step hb); have HI4 := Lib.hid ((hb.block _ HL2.out).trans HI.out); have HH := Lib.hid (fun (W' : World) (hW : W'.heap = w4.heap) (h2 : BxC W' (w.heap.size + 1) xc) (h3 : Rd W' b xs xe) => hGt W' _ _ _ _ _ (Stay.heap hW) h2 h3 (by have := HLT.out; omega)); unfold Ent at e4; have p0 := fun W => fpart3 fh fl fp fg ch cl cp cg W; clear hGt)
          | ((with_reducible refine (HH.out _ rfl HT4.out HR4.out).mono ?_); rintro e w5 ⟨rfl, hT5, hR5, ho5⟩))
        go_roundg (gk - 1)
        case rel =>
          have hm1 := HMM.out
          have hl1 := (List.getElem?_eq_some_iff.1 HS.out).1
          have hsz := HSZ.out
          have hbl := HLT.out
          have hl4 := (Array.getElem?_eq_some_iff.1 HI4.out).1
          refine ⟨m + 1, by omega, ?_, ?_, HZ4.out.off ho5 (by simp; omega), (ho5.block _ hl4 (by simp; omega)).trans HI4.out, read_off HM4.out (by omega) ho5⟩
          · rw [HX.out]; exact hT5
          · rw [HX.out]; exact hR5
        case measure =>
          have hm1 := HMM.out
          have hl1 := (List.getElem?_eq_some_iff.1 HS.out).1
          omega
      · obtain rfl : m = (form (kn : Int)).length := by omega
        rw [List.take_length, HG.out] at hT hR
        have hnx : ∀ ty, (Instr.next (.pointer (some ⟨w.heap.size + 1 + 1, 0, none⟩)) true ty).run Tryz.prog wr = _ := fun ty => next_end Tryz.prog wr _ _ ty hI
        have HE := Lib.hid (err_any b G.2.1 G.2.2 wr hR)
        have hl := run_loadC hT
        have HM := Lib.hid hM
        have HR := Lib.hid hR
        clear hI hlt hm HG
        by_cases hf : G.2.2 = 0
        · have hA := HA.out
          rw [if_pos hf] at hA
          subst hA
          have hf' := hf
          rw [hf] at HE
          have hst2 := run_storeC hZ G.1
          obtain ⟨hz1, hz2⟩ := hZ.stored G.1
          have HQ := Lib.hid (run_loadC hz1)
          have HM2 := Lib.hid (mod_upd' HM.out (Nat.le_refl _) hz2)
          have HR2 := Lib.hid (HR.out.upd hz2 (by omega))
          clear hT hR hZ hM hz1 hz2 hsz hbl
          go_wp2_with (go_at_call 22; refine HE.out.mono ?_; rintro x w9 ⟨rfl, rfl⟩)
          exact bodyPost_ret_by (v := G.1.agg) (resC Tryz.results18 _ rfl HQ.out) rfl ⟨rfl, HR2.out, HM2.out⟩
        · have hA := HA.out
          rw [if_neg hf] at hA
          subst hA
          have hf' : (G.2.2 != 0) = true := by rw [bne_iff_ne]; exact hf
          have hst2 := run_storeC hZ (Cm.zero 0)
          obtain ⟨hz1, hz2⟩ := hZ.stored (Cm.zero 0)
          have HQ := Lib.hid (run_loadC hz1)
          have HM2 := Lib.hid (mod_upd' HM.out (Nat.le_refl _) hz2)
          have HR2 := Lib.hid (HR.out.upd hz2 (by omega))
          clear hT hR hZ hM hz1 hz2 hsz hbl
          go_wp2_with (go_at_call 22; refine HE.out.mono ?_; rintro x w9 ⟨rfl, rfl⟩)
          exact bodyPost_ret_by (v := (Cm.zero 0).agg) (resC Tryz.results18 _ rfl HQ.out) rfl ⟨rfl, HR2.out, HM2.out⟩
  · have hk' : known (kn : Int) = false := by simpa using hk
    rw [if_neg hk]
    rw [hk'] at HK
    have HFL := Lib.hid (fun W (hW : Rd W b r e1) => fail_any b r e1 11 W hW)
    clear hk hk'
    simp only
    generalize hx : (if e1 = 0 then (11 : Int) else e1) = x at HFL ⊢
    have HX : Hid (x ≠ 0) := by show x ≠ 0; rw [← hx]; split <;> omega
    clear hx
    rw [if_neg HX.out]
    go_enter Tryz.func18, Tryz.ntmps18
    go_wp2_with (first
      | (go_at_call 43; refine HO.out.mono ?_; rintro x w1 ⟨rfl, hr1, hu1⟩; obtain ⟨W, -, hst, hz, hZ, hT, hR, hM, hsz⟩ := read_start (kn : Int) HLT.out hr1 hu1; have hk0 := hT.cell 0 _ rfl; simp only [Cm.zero] at hk0)
      | (go_at_call 44; refine (HK.out _).mono ?_; rintro x w2 ⟨rfl, rfl⟩)
      | (go_at_call 45; refine (HFL.out _ hR).mono ?_; rintro x w3 ⟨rfl, hR3, hu3⟩; have hZ3 := hZ.upd hu3 (by have := HLT.out; omega); have hst2 := run_storeC hZ3 (Cm.zero 0); obtain ⟨hz1, hz2⟩ := hZ3.stored (Cm.zero 0); have HQ := Lib.hid (run_loadC hz1)))
    exact bodyPost_ret_by (v := (Cm.zero 0).agg) (resC Tryz.results18 _ rfl HQ.out) rfl ⟨rfl, hR3.upd hz2 (by have := HLT.out; omega), mod_upd' (hM.upd hu3) (Nat.le_refl _) hz2⟩
end Go.Proofs.YtoekggbbkcmknaaGreatDoor
/- The codec's get. -/
namespace Go.Proofs.YtoekggbbkcmknaaGreatDoor
open Go.RowKit
attribute [local go_sem ↓] zeroC_eq newC_eq loadC_eq storeC_eq buildC_eq zeroR_eq newR_eq loadR_eq storeR_eq buildR_eq
attribute [local go_sem] run_zeroC run_newC run_buildC0 run_buildC1 run_neqC run_eqlC run_guardC run_zeroR run_newR run_buildR0 run_buildR1 run_neqR run_eqlR run_guardR
def cdc : Value := .agg #[.func (.func 58) #[] #[], .func (.func 18) #[] #[]]
theorem idleB (p : Addr) (w : World) :
    CallsD Tryz.prog 59 #[.pointer (some p)] .returning w fun e u' w' => e = .returned (.tuple #[]) ∧ u' = .returning ∧ w' = w := by
  refine callsD_of_wpS Tryz.func59 rfl fun c₀ cs hu => ?_
  apply wpS_seq
  apply wpS_region
  simp [wpOpsS, go_sem, recoverD, hu, Tryz.ntmps59, Exit.thenS]
  refine wpS_cond (t := false) (by simp [Act.eval, Array.replicate]) ?_
  simp only [Bool.false_eq_true, if_false]
  refine wpS_of_wp (wp_skip ?_)
  cases c₀
  simp_all [bodyPostS, results, Tryz.results59]
theorem idleG (p : Addr) (w : World) :
    CallsD Tryz.prog 101 #[.pointer (some p)] .returning w fun e u' w' => e = .returned (.tuple #[]) ∧ u' = .returning ∧ w' = w := by
  refine callsD_of_wpS Tryz.func101 rfl fun c₀ cs hu => ?_
  apply wpS_seq
  apply wpS_region
  simp [wpOpsS, go_sem, recoverD, hu, Tryz.ntmps101, Exit.thenS]
  refine wpS_cond (t := false) (by simp [Act.eval, Array.replicate]) ?_
  simp only [Bool.false_eq_true, if_false]
  refine wpS_of_wp (wp_skip ?_)
  cases c₀
  simp_all [bodyPostS, results, Tryz.results101]
set_option maxHeartbeats 1500000 in
theorem get_any (b : Nat) (bs : ByteArray) (e : Int) (w : World) (h : Rd w b bs e) (hF : Forms w) (h0 : 0 < b) :
    Calls Tryz.prog 61 #[.agg #[.func (.func 58) #[] #[], .func (.func 18) #[] #[]], .pointer (some ⟨b, 0, none⟩)] w fun x w' => x = .returned (readC bs e).1.agg ∧ Rd w' b (readC bs e).2.1 (readC bs e).2.2 ∧ Mod b w w' := by
  have hmf : ∀ (fn : Fn) (first cap : Array Value) (w : World), (Instr.makeFunc fn first cap).run Tryz.prog w = .ok (.func fn first cap) w := fun _ _ _ _ => rfl
  have HR := Lib.hid h
  have HF := Lib.hid hF
  have HLT := Lib.hid h.lt
  have HNE : Hid (w.heap.size + 1 + 1 ≠ b) := fun he => by have := HLT.out; omega
  clear h hF
  have HG := Lib.hid (fun W (hW : Rd W b bs e) (hV : Forms W) => read_any b bs e W hW hV h0)
  revert HG
  generalize readC bs e = X
  obtain ⟨xc, s1, e1⟩ := X
  intro HG
  simp only at HG ⊢
  go_enter_defers Tryz.func61, Tryz.ntmps61
  go_wp2_with (go_at_call 18; refine (HG.out _ (((HR.out.alloc _).alloc _).alloc _) (((HF.out.alloc _).alloc _).alloc _)).mono ?_; rintro e w1 ⟨rfl, hr1, hm1⟩; have hz1 : BxC w1 (w.heap.size + 1 + 1) (Cm.zero 0) := by { have h9 := (BxC.newC ((w.alloc (.cells #[.func (.func 58) #[] #[], .func (.func 18) #[] #[]] 87)).alloc (.cells #[.pointer (some ⟨b, 0, none⟩)] 52)) (Cm.zero 0)); simp only [World.size_alloc] at h9; exact h9.mod hm1 HNE.out }; have hst := run_storeC hz1 xc)
  obtain ⟨hz2, hz3⟩ := hz1.stored xc
  have hres := run_loadC hz2
  refine leaves_cons (f := 101) (args := #[.pointer (some ⟨w.heap.size + 1, 0, none⟩)]) (by simp) (by simp [go_sem]) ?_
  refine (idleG ⟨w.heap.size + 1, 0, none⟩ _).mono ?_
  rintro e u' w'' ⟨rfl, rfl, rfl⟩
  simp [Leaves, settle]
  exact ⟨_, resC Tryz.results61 _ rfl hres, rfl, hr1.upd hz3 (Ne.symm HNE.out), mod_upd' (Mod.old (Mod.old (Mod.old hm1))) (by omega) hz3⟩
end Go.Proofs.YtoekggbbkcmknaaGreatDoor
/- Rows in memory of commands. -/
namespace Go.Proofs.YtoekggbbkcmknaaGreatDoor
open Go.RowKit
theorem add_plain' (b o j : Nat) : (⟨b, o, none⟩ : Addr).add j = ⟨b, o + j, none⟩ := by
  unfold Addr.add; split <;> simp_all
theorem flat_at {α : Type} (f : α → List Value) (s : Nat) (hf : ∀ x, (f x).length = s) : ∀ (l : List α) (j i : Nat) (p : α), l[j]? = some p → i < s → (l.flatMap f)[j * s + i]? = (f p)[i]?
  | [], j, i, p, h, _ => by simp at h
  | q :: l, 0, i, p, h, hi => by
    simp at h
    subst h
    rw [List.flatMap_cons, List.getElem?_append_left (by rw [hf]; omega)]
    simp
  | q :: l, j + 1, i, p, h, hi => by
    rw [List.flatMap_cons, List.getElem?_append_right (by rw [hf, Nat.add_mul]; omega)]
    rw [show (j + 1) * s + i - (f q).length = j * s + i by rw [hf, Nat.add_mul]; omega]
    exact flat_at f s hf l j i p (by simpa using h) hi
theorem flat_len {α : Type} (f : α → List Value) (s : Nat) (hf : ∀ x, (f x).length = s) (l : List α) : (l.flatMap f).length = l.length * s := by
  induction l with
  | nil => simp
  | cons p l ih => rw [List.flatMap_cons, List.length_append, ih, hf, List.length_cons, Nat.add_mul]; omega
theorem flat_split {α : Type} (f : α → List Value) (s : Nat) (hs : 0 < s) (hf : ∀ x, (f x).length = s) (l : List α) (j : Nat) (u : Value) (h : (l.flatMap f)[j]? = some u) :
    ∃ i r x, l[i]? = some x ∧ r < s ∧ j = i * s + r ∧ (f x)[r]? = some u := by
  have hj : j < l.length * s := by rw [← flat_len f s hf]; exact (List.getElem?_eq_some_iff.1 h).1
  have hi : j / s < l.length := by rw [Nat.div_lt_iff_lt_mul hs]; exact hj
  have hd : j = j / s * s + j % s := by rw [Nat.mul_comm]; exact (Nat.div_add_mod j s).symm
  have hr : j % s < s := Nat.mod_lt _ hs
  refine ⟨j / s, j % s, l[j / s], List.getElem?_eq_getElem hi, hr, hd, ?_⟩
  have := flat_at f s hf l (j / s) (j % s) _ (List.getElem?_eq_getElem hi) hr
  rw [← hd, h] at this
  exact this.symm
/-- How a thing lies in cells. -/
structure Enc {α : Type} (f : α → List Value) (s : Nat) : Prop where
  pos : 0 < s
  len : ∀ x, (f x).length = s
  one : ∀ x, ∀ u ∈ f x, u.oneCell' = true
theorem Enc.flat_one {α : Type} {f : α → List Value} {s : Nat} (E : Enc f s) (l : List α) : ∀ u ∈ l.flatMap f, u.oneCell' = true := by
  intro u hu
  obtain ⟨x, _, h⟩ := List.mem_flatMap.1 hu
  exact E.one x u h
def CellsAt {α : Type} (f : α → List Value) (s : Nat) (w : World) (b o : Nat) (l : List α) : Prop :=
  ∀ (j : Nat) x, l[j]? = some x → ∀ i u, (f x)[i]? = some u → w.cell? ⟨b, o + j * s + i, none⟩ = some u
theorem CellsAt.below {α : Type} {f : α → List Value} {s : Nat} {w w' : World} {b o : Nat} {l : List α} {B : Nat} (h : CellsAt f s w b o l) (hB : B = w.heap.size) (hb : Below B w w') : CellsAt f s w' b o l := by
  subst hB
  intro j x hj i u hu
  have h0 := h j x hj i u hu
  exact (hb.cell (p := ⟨b, o + j * s + i, none⟩) (World.block_lt_of_cell? _ _ h0)).trans h0
theorem CellsAt.flat {α : Type} {f : α → List Value} {s : Nat} (E : Enc f s) {w : World} {b o : Nat} {l : List α} (h : CellsAt f s w b o l) :
    ∀ j u, (l.flatMap f)[j]? = some u → w.cell? ((⟨b, o, none⟩ : Addr).add j) = some u := by
  intro j u hj
  obtain ⟨i, r, x, hi, _, rfl, hu⟩ := flat_split f s E.pos E.len l j u hj
  rw [add_plain', ← Nat.add_assoc]
  exact h i x hi r u hu
theorem CellsAt.take {α : Type} {f : α → List Value} {s : Nat} {w : World} {b o : Nat} {l : List α} (h : CellsAt f s w b o l) (k : Nat) : CellsAt f s w b o (l.take k) := by
  intro j x hj
  rw [List.getElem?_take] at hj
  split at hj
  · exact h j x hj
  · cases hj
theorem CellsAt.drop {α : Type} {f : α → List Value} {s : Nat} {w : World} {b o : Nat} {l : List α} (h : CellsAt f s w b o l) (k : Nat) : CellsAt f s w b (o + k * s) (l.drop k) := by
  intro j x hj i u hu
  rw [List.getElem?_drop] at hj
  have := h (k + j) x hj i u hu
  rw [Nat.add_mul, ← Nat.add_assoc] at this
  exact this
/-- A slice that shows a row. -/
structure SlG {α : Type} (f : α → List Value) (s : Nat) (w : World) (v : Value) (l : List α) : Prop where
  get : ∃ (a : Option Addr) (b o c : Nat), v = .slice a l.length c ∧ l.length ≤ c ∧ c ≤ maxLen ∧ (a = none → c = 0) ∧ (a = none ∨ a = some ⟨b, o, none⟩) ∧ CellsAt f s w b o l
variable {α : Type} {f : α → List Value} {s : Nat} {w w' : World} {v : Value} {l : List α}
theorem SlG.below (h : SlG f s w v l) (hb : Below w.heap.size w w') : SlG f s w' v l := by
  obtain ⟨a, b, o, c, h1, h2, h3, h4, h5, h6⟩ := h.get
  exact ⟨a, b, o, c, h1, h2, h3, h4, h5, h6.below rfl hb⟩
theorem SlG.nil (w : World) : SlG f s w (.slice none 0 0) [] := ⟨none, 0, 0, 0, rfl, Nat.le_refl _, Nat.zero_le _, fun _ => rfl, .inl rfl, fun j x h => by simp at h⟩
theorem SlG.slice (h : SlG f s w v l) : ∃ a c, v = .slice a l.length c := by
  obtain ⟨a, _, _, c, h1, _⟩ := h.get
  exact ⟨a, c, h1⟩
def RowG (f : α → List Value) (s : Nat) (T : TypeId) (w : World) (B : Nat) (v : Value) (l : List α) : Prop := w.ownsRow B T s v l.length (l.flatMap f)
variable {T : TypeId} {B B' : Nat}
theorem RowG.nil (f : α → List Value) (s : Nat) (T : TypeId) (w : World) (B : Nat) : RowG f s T w B (.slice none 0 0) [] := World.ownsRow_nil _ _ _ _
theorem RowG.sl (E : Enc f s) (h : RowG f s T w B v l) : SlG f s w v l := by
  have hw : w.ownsRow B T s v l.length (l.flatMap f) := h
  rcases hw.2 with ⟨rfl, h0⟩ | ⟨g, cap, cur, rfl, _, _, h2, h3, _⟩
  · obtain rfl : l = [] := List.length_eq_zero_iff.1 h0
    exact SlG.nil w
  · refine ⟨_, g, 0, cap, rfl, h2, h3, (fun h => by cases h), .inr rfl, fun j p hj i u hu => ?_⟩
    have hlt := (List.getElem?_eq_some_iff.1 hj).1
    have hi : i < s := by rw [← E.len p]; exact (List.getElem?_eq_some_iff.1 hu).1
    have hm : j * s + i < l.length * s := by
      have : (j + 1) * s ≤ l.length * s := Nat.mul_le_mul_right s hlt
      rw [Nat.add_mul] at this; omega
    rw [Nat.zero_add]
    exact ((hw.cellAt (j * s + i) hm).trans (flat_at f s E.len l j i p hj hi)).trans hu
theorem RowG.below (h : RowG f s T w B v l) (hb : Below w.heap.size w w') : RowG f s T w' B v l := by
  obtain ⟨h0, h1⟩ := h
  refine ⟨h0, ?_⟩
  rcases h1 with h1 | ⟨g, cap, cur, hv, hB, hg, h2, h3, h4, h5⟩
  · exact .inl h1
  · refine .inr ⟨g, cap, cur, hv, hB, ?_, h2, h3, h4, h5⟩
    have hlt : g < w.heap.size := (Array.getElem?_eq_some_iff.1 hg).1
    rw [hb.block g hlt]; exact hg
theorem RowG.base (h : RowG f s T w B v l) (hb : B' ≤ B) : RowG f s T w B' v l := by
  obtain ⟨h0, h1⟩ := h
  refine ⟨h0, ?_⟩
  rcases h1 with h1 | ⟨g, cap, cur, hv, hB, hg, h2, h3, h4, h5⟩
  · exact .inl h1
  · exact .inr ⟨g, cap, cur, hv, Nat.le_trans hb hB, hg, h2, h3, h4, h5⟩
theorem RowG.alloc (h : RowG f s T w B v l) (o : Obj) : RowG f s T (w.alloc o) B v l := World.ownsRow.alloc h o
theorem RowG.lt (h : RowG f s T w B v l) : ∀ k, v.ownBlock = some k → B ≤ k ∧ k < w.heap.size := fun k hk => World.ownsRow.lt h k hk
/-- It stays where its block stays. -/
theorem RowG.keep (h : RowG f s T w B v l) (hk : ∀ g, v.ownBlock = some g → w'.heap[g]? = w.heap[g]?) : RowG f s T w' B v l := by
  obtain ⟨h0, h1⟩ := h
  refine ⟨h0, ?_⟩
  rcases h1 with h1 | ⟨g, cap, cur, hv, hB, hg, h2, h3, h4, h5⟩
  · exact .inl h1
  · refine .inr ⟨g, cap, cur, hv, hB, ?_, h2, h3, h4, h5⟩
    rw [hk g (by rw [hv]; rfl)]; exact hg
theorem RowG.slice (h : RowG f s T w B v l) : ∃ a c, v = .slice a l.length c := by
  obtain ⟨_, h1⟩ := h
  rcases h1 with ⟨rfl, h0⟩ | ⟨g, cap, cur, rfl, _⟩
  · exact ⟨none, 0, by rw [h0]⟩
  · exact ⟨_, _, rfl⟩
theorem RowG.slice' (h : RowG f s T w B v l) : ∃ a n c, v = .slice a n c := by obtain ⟨a, c, h⟩ := h.slice; exact ⟨a, _, c, h⟩
/-- What is told of a type ahead of an append. -/
structure App (TS T : TypeId) (s by_ : Nat) : Prop where
  und : Tryz.prog.underlying TS = some (.slice T)
  inf : ∃ (i : TypeInfo) (z : Value), Tryz.prog.info? T = some i ∧ i.zero = some z ∧ i.size = s ∧ i.bytes = by_ ∧ z.cells.size = s
theorem App.mk' {TS T : TypeId} {s by_ : Nat} (h0 : Tryz.prog.underlying TS = some (.slice T)) (h : (Tryz.prog.info? T).map (fun i => (i.zero.map (fun z => z.cells.size), i.size, i.bytes)) = some (some s, s, by_)) : App TS T s by_ := by
  cases hi : Tryz.prog.info? T with
  | none => rw [hi] at h; cases h
  | some i0 =>
    rw [hi] at h
    simp only [Option.map_some, Option.some.injEq, Prod.mk.injEq] at h
    obtain ⟨h1, h2, h3⟩ := h
    cases hz : i0.zero with
    | none => rw [hz] at h1; cases h1
    | some z =>
      rw [hz] at h1
      simp only [Option.map_some, Option.some.injEq] at h1
      exact ⟨h0, i0, z, hi, hz, h2, h3, h1⟩
/-- append of a row that a slice shows. -/
theorem appS {TS : TypeId} {by_ : Nat} (E : Enc f s) (A : App TS T s by_) (hby : by_ ≤ 300) (u : Value) (m : List α) (ty : TypeId) (hB : B ≤ w.heap.size) (hu : RowG f s T w B u l) (hv : SlG f s w v m) (hl : l.length ≤ 300000) (hm : m.length ≤ 300000) :
    ∃ v' w', (Builtin.append_ #[TS, TS] ty #[u, v]).run Tryz.prog w = .ok v' w' ∧ RowG f s T w' B v' (l ++ m) ∧ w.grownBy w' u.ownBlock ∧ Below B w w' ∧ (v'.ownBlock = u.ownBlock ∨ v'.ownBlock = some w.heap.size) := by
  obtain ⟨i0, z, hi, hz0, hz1, hz2, hzs⟩ := A.inf
  obtain ⟨a, b, o, c, rfl, _, _, ha0, ha, hx⟩ := hv.get
  rcases ha with rfl | rfl
  · obtain rfl : c = 0 := ha0 rfl
    have hm0 : m = [] := by
      have : m.length ≤ 0 := by assumption
      exact List.length_eq_zero_iff.1 (by omega)
    subst hm0
    refine ⟨u, w, run_append_owned_none (P := Tryz.prog) (w := w) B TS ty T i0 s A.und hi u l.length (l.flatMap f) hu, by rw [List.append_nil]; exact hu, ⟨rfl, rfl, rfl, Nat.le_refl _, fun _ _ _ => rfl⟩, Below.refl _ _, .inl rfl⟩
  · obtain ⟨v', w', hr, h2, h3, _, h5⟩ := run_append_own_at (P := Tryz.prog) w B TS ty T i0 z s by_ A.und hi hz0 hz1 hz2 hzs E.pos u l.length (l.flatMap f) hu ⟨b, o, none⟩ m.length c (m.flatMap f) (flat_len _ _ E.len _) (hx.flat E) (E.flat_one _) (by unfold maxLen; omega) (by have : (l.length + m.length) * by_ ≤ 600000 * 300 := Nat.mul_le_mul (by omega) hby; omega) hB
    refine ⟨v', w', hr, ?_, h3, (Below.refl _ w).grown h3 hB (fun k hk => (World.ownsRow.lt hu k hk).1), h5⟩
    show w'.ownsRow _ _ _ _ _ _
    rw [List.flatMap_append, List.length_append]; exact h2
/-- append of one thing, laid in a block of its own. -/
theorem app1 {TS : TypeId} {by_ : Nat} (E : Enc f s) (A : App TS T s by_) (hby : by_ ≤ 300) (u : Value) (x : α) (ty : TypeId) (W : World) (hB : B ≤ W.heap.size) (hu : RowG f s T W B u l) (hl : l.length ≤ 300000) (cs : Array Value) (hcs : cs = (f x).toArray) (g : Nat) (hg : W.heap.size = g) :
    ∃ v' w', (Builtin.append_ #[TS, TS] ty #[u, .slice (some ⟨g, 0, none⟩) 1 1]).run Tryz.prog (W.alloc (.cells cs T)) = .ok v' w' ∧ RowG f s T w' B v' (l ++ [x]) ∧ (W.alloc (.cells cs T)).grownBy w' u.ownBlock ∧ Below B W w' ∧ (v'.ownBlock = u.ownBlock ∨ v'.ownBlock = some (g + 1)) := by
  subst hcs
  have hsl : SlG f s (W.alloc (.cells (f x).toArray T)) (.slice (some ⟨g, 0, none⟩) 1 1) [x] := by
    refine ⟨_, g, 0, 1, rfl, Nat.le_refl _, by unfold maxLen; omega, (fun h => by cases h), .inr rfl, ?_⟩
    intro j y hj i u' hu'
    cases j with
    | succ j => simp at hj
    | zero =>
      simp at hj
      subst hj hg
      rw [Nat.zero_mul, Nat.zero_add, World.cell?_alloc_new]
      simpa using hu'
  obtain ⟨v', w', h1, h2, h3, h4, h5⟩ := appS E A hby u [x] ty (by simp; omega) (hu.alloc (.cells (f x).toArray T)) hsl hl (by simp)
  refine ⟨v', w', h1, h2, h3, ((Below.refl B W).alloc hB _).trans h4, ?_⟩
  rw [World.size_alloc, hg] at h5
  exact h5
/-- A part of what a slice shows. -/
theorem SlG.cut {a : Option Addr} {n c : Nat} (h : SlG f s w (.slice a n c) l) (k : Nat) (hk : k ≤ n) : SlG f s w (.slice a k c) (l.take k) := by
  obtain ⟨a', b, o, c', h1, h2, h3, h4, h5, h6⟩ := h.get
  cases h1
  have hl : (l.take k).length = k := by rw [List.length_take]; omega
  exact ⟨a, b, o, c, by rw [hl], by omega, h3, h4, h5, h6.take k⟩
theorem SlG.tail {b o n c : Nat} (h : SlG f s w (.slice (some ⟨b, o, none⟩) n c) l) (k : Nat) (hk : k ≤ n) : SlG f s w (.slice (some ⟨b, o + k * s, none⟩) (n - k) (c - k)) (l.drop k) ∧ (c = k → SlG f s w (.slice (some ⟨b, o, none⟩) (n - k) (c - k)) (l.drop k)) := by
  obtain ⟨a', b', o', c', h1, h2, h3, h4, h5, h6⟩ := h.get
  cases h1
  have hl : (l.drop k).length = l.length - k := List.length_drop
  rcases h5 with h5 | h5
  · cases h5
  · cases h5
    refine ⟨⟨_, b, o + k * s, c - k, by rw [hl], by omega, by omega, (fun h => by cases h), .inr rfl, h6.drop k⟩, fun hc => ?_⟩
    have he : l.drop k = [] := List.drop_eq_nil_of_le (by omega)
    rw [he]
    exact ⟨_, b, o, c - k, by simp; omega, by simp, by omega, (fun h => by cases h), .inr rfl, fun j x h => by simp at h⟩
theorem encV : Enc Cm.vals 18 := ⟨by decide, fun _ => rfl, fun x u hu => vals_one x u hu⟩
theorem appC : App 22 32 18 208 := .mk' Tryz.underlying22 (by kernel_rfl)
theorem appR : App 49 40 18 208 := .mk' Tryz.underlying49 (by kernel_rfl)
theorem RowG.mod {b : Nat} (h : RowG f s T w B v l) (hm : Mod b w w') (hb : b < B) : RowG f s T w' B v l := own_mod h hm hb
theorem take_snocL {α : Type} {l : List α} {k : Nat} {y : α} (h : l[k]? = some y) : l.take (k + 1) = l.take k ++ [y] := by rw [List.take_add_one, h]; rfl
end Go.Proofs.YtoekggbbkcmknaaGreatDoor
/- The codec; its Read; Parse. -/
namespace Go.Proofs.YtoekggbbkcmknaaGreatDoor
open Go.RowKit
attribute [local go_sem ↓] zeroC_eq newC_eq loadC_eq storeC_eq buildC_eq zeroR_eq newR_eq loadR_eq storeR_eq buildR_eq
attribute [local go_sem] run_zeroC run_newC run_buildC0 run_buildC1 run_neqC run_eqlC run_guardC run_zeroR run_newR run_buildR0 run_buildR1 run_neqR run_eqlR run_guardR
theorem store_fn' {P : Program} {w : World} {a : Addr} {m : Mode} (f : Fn) (x y : Array Value) : (store a (.func f x y) m).run P w = stored P w a (.func f x y) m := run_store P w a _ m rfl
attribute [local go_sem] store_fn'
theorem codec_any (w : World) : Calls Tryz.prog 33 #[] w fun e w' => e = .returned (.agg #[.func (.func 58) #[] #[], .func (.func 18) #[] #[]] : Value) ∧ Below w.heap.size w w' := by
  go_enter Tryz.func33, Tryz.ntmps33
  go_wp2
  exact bodyPost_ret_by (v := (.agg #[.func (.func 58) #[] #[], .func (.func 18) #[] #[]] : Value)) (by simp [results, Tryz.results33, go_sem]) rfl ⟨rfl, (Below.refl _ _).alloc (Nat.le_refl _) _⟩
/-- What Parse answers of any bytes. -/
def readG (s : ByteArray) : Cm × Int :=
  let G := readC s 0
  if fin G.2.1 G.2.2 = 0 then (G.1, 0) else (Cm.zero 0, fin G.2.1 G.2.2)
structure R3 (w : World) (g : Nat) : Prop where
  c0 : w.cell? ⟨g, 0, none⟩ = some (.func (.func 58) #[] #[])
  c1 : w.cell? ⟨g, 1, none⟩ = some (.func (.func 18) #[] #[])
  r : BxC w (g + 1) (Cm.zero 0)
  n : BxC w (g + 1 + 1) (Cm.zero 0)
theorem R3.keep {w w' : World} {g : Nat} (h : R3 w g) (hk : ∀ k, k ≤ g + 1 + 1 → w'.heap[k]? = w.heap[k]?) : R3 w' g := by
  have c : ∀ o, w'.cell? ⟨g, o, none⟩ = w.cell? ⟨g, o, none⟩ := fun o => World.cell?_of_block (w := w) (hk g (by omega))
  exact ⟨(c _).trans h.c0, (c _).trans h.c1, h.r.keep (hk _ (by omega)), h.n.keep (hk _ (by omega))⟩
theorem R3.below {w w' : World} {g : Nat} (h : R3 w g) (hb : Below w.heap.size w w') : R3 w' g := h.keep (fun k hk => hb.block k (by have := h.n.lt; omega))
theorem R3.mod {w w' : World} {g b : Nat} (h : R3 w g) (hm : Mod b w w') (hb : g + 1 + 1 < b) : R3 w' g := h.keep (fun k hk => hm.block k (by have := h.n.lt; omega) (by omega))
theorem R3.alloc {w : World} {g : Nat} (h : R3 w g) (o : Obj) : R3 (w.alloc o) g := h.below ((Below.refl _ _).alloc (Nat.le_refl _) _)
theorem R3.new (w : World) : R3 (((w.alloc (.cells #[.func (.func 58) #[] #[], .func (.func 18) #[] #[]] 87)).alloc (objC (Cm.zero 0))).alloc (objC (Cm.zero 0))) w.heap.size := by
  have h1 := (BxC.newC (w.alloc (.cells #[.func (.func 58) #[] #[], .func (.func 18) #[] #[]] 87)) (Cm.zero 0)).alloc (objC (Cm.zero 0))
  have h2 := BxC.newC ((w.alloc (.cells #[.func (.func 58) #[] #[], .func (.func 18) #[] #[]] 87)).alloc (objC (Cm.zero 0))) (Cm.zero 0)
  simp only [World.size_alloc] at h1 h2
  have o1 : ∀ (W : World) (o : Obj) (b i : Nat), b < W.heap.size → (W.alloc o).cell? ⟨b, i, none⟩ = W.cell? ⟨b, i, none⟩ := fun W o b i h => World.cell?_alloc_old W o ⟨b, i, none⟩ (Nat.ne_of_lt h)
  refine ⟨?_, ?_, h1, h2⟩
  · rw [o1 _ _ _ _ (by simp; omega), o1 _ _ _ _ (by simp), World.cell?_alloc_new]; rfl
  · rw [o1 _ _ _ _ (by simp; omega), o1 _ _ _ _ (by simp), World.cell?_alloc_new]; rfl
theorem size1 (w : World) (o : Obj) : (w.alloc o).heap.size = w.heap.size + 1 := by simp
theorem size3 (w : World) (o1 o2 o3 : Obj) : (((w.alloc o1).alloc o2).alloc o3).heap.size = w.heap.size + 1 + 1 + 1 := by simp
theorem over_at (s : ByteArray) (b : Nat) (w : World) (hb : w.heap.size = b) :
    Calls Tryz.prog 17 #[.string s] w fun e w' => e = .returned (.pointer (some ⟨b, 0, none⟩)) ∧ Rd w' b s 0 ∧ Below w.heap.size w w' := by
  subst hb; exact over_any s w
theorem func_nilG (w : World) : (binOp .eql 57 (.func (.func 18) #[] #[]) .nilFunc).run Tryz.prog w = .ok (.bool false) w := by kernel_rfl
theorem func_nilB (w : World) : (binOp .eql 85 (.func (.func 58) #[] #[]) .nilFunc).run Tryz.prog w = .ok (.bool false) w := by kernel_rfl
theorem resRd {w : World} {g : Nat} {v : Value} {e : Int} {tmps : Array Value} (ht : tmps.getD 4 undef = .pointer (some ⟨g, 0, none⟩)) (h5 : tmps[5]? = some (.int .i64 e)) (hl : (loadC ⟨g, 0, none⟩).run Tryz.prog w = .ok v w) :
    (results Tryz.f38 tmps).run Tryz.prog w = .ok (.tuple #[v, .int .i64 e]) w := by
  have ht' : tmps[4]?.getD undef = .pointer (some ⟨g, 0, none⟩) := by simpa using ht
  have hl' : (loadVar 32 ⟨g, 0, none⟩).run Tryz.prog w = .ok v w := hl
  simp [results, Tryz.results38, ht', h5, asAddr, hl']
theorem resPs {w : World} {g : Nat} {v : Value} {e : Int} {tmps : Array Value} (ht : tmps.getD 2 undef = .pointer (some ⟨g, 0, none⟩)) (h5 : tmps[3]? = some (.int .i64 e)) (hl : (loadC ⟨g, 0, none⟩).run Tryz.prog w = .ok v w) :
    (results Tryz.f13 tmps).run Tryz.prog w = .ok (.tuple #[v, .int .i64 e]) w := by
  have ht' : tmps[2]?.getD undef = .pointer (some ⟨g, 0, none⟩) := by simpa using ht
  have hl' : (loadVar 32 ⟨g, 0, none⟩).run Tryz.prog w = .ok v w := hl
  simp [results, Tryz.results13, ht', h5, asAddr, hl']
set_option maxHeartbeats 1500000 in
theorem cRead_any (s : ByteArray) (w : World) (hF : Forms w) :
    Calls Tryz.prog 38 #[(.agg #[.func (.func 58) #[] #[], .func (.func 18) #[] #[]] : Value), .string s] w fun x w' => x = .returned (.tuple #[(readG s).1.agg, .int .i64 (readG s).2]) ∧ Below w.heap.size w w' := by
  have heq := func_nilG
  have H0 := Lib.hid (R3.new w)
  have HF := Lib.hid (((hF.alloc (.cells #[.func (.func 58) #[] #[], .func (.func 18) #[] #[]] 87)).alloc (objC (Cm.zero 0))).alloc (objC (Cm.zero 0)))
  have HG := Lib.hid (fun b W (hW : Rd W b s 0) (hV : Forms W) (h0 : 0 < b) => get_any b s 0 W hW hV h0)
  unfold readG
  revert HG
  generalize readC s 0 = X
  obtain ⟨xc, s1, e1⟩ := X
  intro HG
  simp only at HG ⊢
  have HE := Lib.hid (fun b W (hW : Rd W b s1 e1) => end_rd b s1 e1 W hW)
  revert HE
  generalize fin s1 e1 = f
  intro HE
  clear hF
  obtain ⟨b, hb⟩ : ∃ b, b = w.heap.size + 1 + 1 + 1 := ⟨_, rfl⟩
  have HBE := Lib.hid hb
  clear hb
  by_cases hf : f = 0
  · subst hf
    rw [if_pos rfl]
    go_enter Tryz.func38, Tryz.ntmps38
    go_wp2_with (first
      | (go_at_call 17; refine (over_at _ b _ (by rw [size3, HBE.out])).mono ?_; rintro e w1 ⟨rfl, hr1, hb1⟩; have HR1 := Lib.hid (H0.out.below hb1); have HF1 := Lib.hid (HF.out.below hb1 HF.out.lt); have q0 := HR1.out.c0; have q1 := HR1.out.c1)
      | (go_at_call 61; refine (HG.out _ _ hr1 HF1.out (by rw [HBE.out]; omega)).mono ?_; rintro e w2 ⟨rfl, hr2, hm2⟩; have HR2 := Lib.hid ((HR1.out.mod hm2 (by rw [HBE.out]; omega)).alloc (objC (Cm.zero 0))); have hn2 := BxC.newC w2 (Cm.zero 0); have hst1 := run_storeC hn2 xc; obtain ⟨hn3, hu3⟩ := hn2.stored xc; have hr3 := (hr2.alloc (objC (Cm.zero 0))).upd hu3 (by have := hr2.lt; omega); have HR3 := Lib.hid (HR2.out.keep (fun k hk => hu3.block k (by have := hr2.lt; rw [HBE.out] at this; omega))); have hld := run_loadC hn3)
      | (go_at_call 62; refine (HE.out _ _ hr3).mono ?_; rintro e w3 ⟨rfl, rfl⟩; have hst2 := run_storeC HR3.out.r xc; obtain ⟨hz1, hz2⟩ := HR3.out.r.stored xc; have hres := run_loadC hz1))
    have hW1 := below_step (below3 w _ _ _) hb1
    have hW2 := hW1.trans (hm2.below (by rw [HBE.out]; omega) hW1.size)
    exact bodyPost_ret_by (resRd rfl rfl hres) rfl ⟨rfl, ((hW2.alloc hW2.size _).trans (hu3.below hW2.size)).trans (hz2.below (Nat.le_succ _))⟩
  · have hf' : (f != 0) = true := by rw [bne_iff_ne]; exact hf
    rw [if_neg hf]
    go_enter Tryz.func38, Tryz.ntmps38
    go_wp2_with (first
      | (go_at_call 17; refine (over_at _ b _ (by rw [size3, HBE.out])).mono ?_; rintro e w1 ⟨rfl, hr1, hb1⟩; have HR1 := Lib.hid (H0.out.below hb1); have HF1 := Lib.hid (HF.out.below hb1 HF.out.lt); have q0 := HR1.out.c0; have q1 := HR1.out.c1)
      | (go_at_call 61; refine (HG.out _ _ hr1 HF1.out (by rw [HBE.out]; omega)).mono ?_; rintro e w2 ⟨rfl, hr2, hm2⟩; have HR2 := Lib.hid ((HR1.out.mod hm2 (by rw [HBE.out]; omega)).alloc (objC (Cm.zero 0))); have hn2 := BxC.newC w2 (Cm.zero 0); have hst1 := run_storeC hn2 xc; obtain ⟨hn3, hu3⟩ := hn2.stored xc; have hr3 := (hr2.alloc (objC (Cm.zero 0))).upd hu3 (by have := hr2.lt; omega); have HR3 := Lib.hid (HR2.out.keep (fun k hk => hu3.block k (by have := hr2.lt; rw [HBE.out] at this; omega))); have hld := run_loadC hn3)
      | (go_at_call 62; refine (HE.out _ _ hr3).mono ?_; rintro e w3 ⟨rfl, rfl⟩; have hst2 := run_storeC HR3.out.r (Cm.zero 0); have hld2 := run_loadC HR3.out.n; obtain ⟨hz1, hz2⟩ := HR3.out.r.stored (Cm.zero 0); have hres := run_loadC hz1))
    have hW1 := below_step (below3 w _ _ _) hb1
    have hW2 := hW1.trans (hm2.below (by rw [HBE.out]; omega) hW1.size)
    exact bodyPost_ret_by (resRd rfl rfl hres) rfl ⟨rfl, ((hW2.alloc hW2.size _).trans (hu3.below hW2.size)).trans (hz2.below (Nat.le_succ _))⟩
set_option maxHeartbeats 1500000 in
theorem parse_any (s : ByteArray) (w : World) (hF : Forms w) :
    Calls Tryz.prog 13 #[.string s] w fun x w' => x = .returned (.tuple #[(readG s).1.agg, .int .i64 (readG s).2]) ∧ Below w.heap.size w w' := by
  have HF := Lib.hid (hF.alloc (objC (Cm.zero 0)))
  have HZ := Lib.hid (BxC.newC w (Cm.zero 0))
  have HR := Lib.hid (fun W (hW : Forms W) => cRead_any s W hW)
  revert HR
  generalize readG s = X
  intro HR
  clear hF
  go_enter Tryz.func13, Tryz.ntmps13
  go_wp2_with (first
    | (go_at_call 33; refine (codec_any _).mono ?_; rintro e w1 ⟨rfl, hb1⟩)
    | (go_at_call 38; refine (HR.out _ (HF.out.below hb1 HF.out.lt)).mono ?_; rintro e w2 ⟨rfl, hb2⟩; have hz2 := (HZ.out.below hb1).below hb2; have hst := run_storeC hz2 X.1; obtain ⟨hz3, hu3⟩ := hz2.stored X.1; have hres := run_loadC hz3))
  exact bodyPost_ret_by (resPs rfl rfl hres) rfl ⟨rfl, (below_step (below_step ((Below.refl _ _).alloc (Nat.le_refl _) _) hb1) hb2).trans (hu3.below (Nat.le_refl _))⟩
end Go.Proofs.YtoekggbbkcmknaaGreatDoor
/- A row of one command, laid. -/
namespace Go.Proofs.YtoekggbbkcmknaaGreatDoor
open Go.RowKit
def bslC (ps : Array (Nat × Value)) : Sem Value := Instr.buildSlice 22 1 ps
theorem bslC_eq (ps : Array (Nat × Value)) : Instr.buildSlice 22 1 ps = bslC ps := rfl
theorem run_bslC (c : Cm) (w : World) : (bslC #[(0, c.agg)]).run Tryz.prog w = .ok (.slice (some ⟨w.heap.size, 0, none⟩) 1 1) (w.alloc (objC c)) := by
  unfold bslC objC Cm.agg Cm.vals
  simp [go_sem]
def bslR (ps : Array (Nat × Value)) : Sem Value := Instr.buildSlice 49 1 ps
theorem bslR_eq (ps : Array (Nat × Value)) : Instr.buildSlice 49 1 ps = bslR ps := rfl
theorem run_bslR (c : Cm) (w : World) : (bslR #[(0, c.agg)]).run Tryz.prog w = .ok (.slice (some ⟨w.heap.size, 0, none⟩) 1 1) (w.alloc (objR c)) := by
  unfold bslR objR Cm.agg Cm.vals
  simp [go_sem]
end Go.Proofs.YtoekggbbkcmknaaGreatDoor
