/- Texts of one seat, merged. -/
import Derived.Test.YtoekggbbkcmknaaGreatDoorB04
import Derived.Test.YtoekggbbkcmknaaGreatDoorB05
import Derived.Test.YtoekggbbkcmknaaGreatDoorB07
import Derived.Laws.OwnMore
import Derived.Test.YtoekggbbkcmknaaGreatDoorB01
import Derived.Deep.LoopGhost
import Derived.RangeFuncNested
import Derived.RangeFuncBound
import Derived.RangeFuncCalls
import Derived.RangeFuncLeaves
import Derived.RangeFuncBox
import Derived.Shelf.Abstract
import Derived.Shelf.RegionOpen
import Derived.WalkKit
import Derived.OwnWalkIn
import Derived.TacticsInMore
import Derived.LoopNIn
import Derived.LoopIn
import Derived.Sort.LoopGhostIn
import Derived.RangeFuncWrites
import Derived.Sort.CutIn
set_option maxRecDepth 100000
set_option maxHeartbeats 4000000
set_option linter.unusedVariables false
/- A builder beside an iterator; a command's bytes. -/
namespace Go.Proofs.YtoekggbbkcmknaaGreatDoor
open Go.RowKit
attribute [local go_sem ↓] zeroC_eq newC_eq loadC_eq storeC_eq buildC_eq zeroR_eq newR_eq loadR_eq storeR_eq buildR_eq
attribute [local go_sem] run_zeroC run_newC run_buildC0 run_buildC1 run_neqC run_eqlC run_guardC run_zeroR run_newR run_buildR0 run_buildR1 run_neqR run_eqlR run_guardR
theorem copyCheck_k (B b : Nat) (bs : List Value) (w : World) (h : Lib.IsBuilder 77 5 B b bs w) :
    Calls Tryz.prog 55 #[.pointer (some ⟨b, 0, none⟩)] w fun e w' => e = .returned (.tuple #[]) ∧ Lib.BuilderAt 77 5 B b (.pointer (some ⟨b, 0, none⟩)) bs w' ∧ Below B w w' ∧ Lib.OthersKept 5 (some b) w w' := by
  rcases h with h | h
  · refine (copyCheck_fresh b w h.cell0 h.shape h.frozen0).mono ?_
    rintro e w' ⟨rfl, rfl⟩
    exact ⟨rfl, h.used _, (Below.refl B w).setCell (p := ⟨b, 0, none⟩) h.1 _, (Lib.OthersKept.refl 5 (some b) w).setCell _ rfl _⟩
  · refine (copyCheck_used b w h.cell0).mono ?_
    rintro e w' ⟨rfl, rfl⟩
    exact ⟨rfl, h, Below.refl B _, Lib.OthersKept.refl _ _ _⟩
theorem writeString_k (B b : Nat) (bs : List Value) (s : ByteArray) (w : World) (h : Lib.IsBuilder 77 5 B b bs w) (hlen : bs.length + s.size ≤ 140737488355328) (hBw : B ≤ w.heap.size) :
    Calls Tryz.prog 29 #[.pointer (some ⟨b, 0, none⟩), .string s] w fun e w' => e = .returned (.tuple #[.int .i64 s.size, .nilIface]) ∧ Lib.BuilderAt 77 5 B b (.pointer (some ⟨b, 0, none⟩)) (bs ++ Lib.strCells s) w' ∧ Below B w w' ∧ Lib.OthersKept 5 (some b) w w' := by
  obtain ⟨i0, hi, hz0, hz1, hz2⟩ := info_parts infoByte
  go_enter Tryz.func29, Tryz.ntmps29
  go_wp2_with (go_at_call 55; refine (copyCheck_k B b bs _ h).mono ?_)
  rintro e w1 ⟨rfl, ⟨hB, v, hbk, hown, hne⟩, hb1, hk1⟩
  have hsz := hb1.size
  have c0 : w1.cell? ⟨b, 0, none⟩ = some (.pointer (some ⟨b, 0, none⟩)) := by rw [Lib.cell_of_heap hbk]; rfl
  have c1 : w1.cell? ⟨b, 1, none⟩ = some v := by rw [Lib.cell_of_heap hbk]; rfl
  have HK1 := Lib.hid hk1
  clear hk1
  go_wp2_with (at_builtin; refine Lib.wpList_append_own_string _ rfl _ _ 70 9 rfl B 5 i0 Tryz.underlying70 Tryz.underlying9 hi hz0 hz1 hz2 _ _ _ rfl hown s rfl ?c3 ?c4 ?c5 ?_)
  case c3 => unfold maxLen; omega
  case c4 => omega
  case c5 => omega
  intro v' w2 hown' hgrow _
  have hlt : b < w1.heap.size := by
    rcases Nat.lt_or_ge b w1.heap.size with h' | h'
    · exact h'
    · simp [Array.getElem?_eq_none h'] at hbk
  have hb2 : w2.heap[b]? = some (.cells #[.pointer (some ⟨b, 0, none⟩), v] 77 (0, 0)) := by
    rw [hgrow.block b hlt (fun e => hne e.symm)]
    exact hbk
  have d0 : w2.cell? ⟨b, 0, none⟩ = some (.pointer (some ⟨b, 0, none⟩)) := by rw [Lib.cell_of_heap hb2]; rfl
  have d1 : w2.cell? ⟨b, 1, none⟩ = some v := by rw [Lib.cell_of_heap hb2]; rfl
  have g1 : w2.frozen? ⟨b, 1, none⟩ = false := Lib.frozen_of_heap hb2 1
  obtain ⟨ao, m, cap, rfl⟩ : ∃ ao m cap, v' = .slice ao m cap := by
    rcases hown'.2 with ⟨hv, _⟩ | ⟨g, cap, cur, hv, _⟩
    · exact ⟨_, _, _, hv⟩
    · exact ⟨_, _, _, hv⟩
  have HK2 := Lib.hid (HK1.out.grown hgrow (fun g hg => by
    rcases hown.2 with ⟨rfl, _⟩ | ⟨g', cap, cur, rfl, _, hh, _⟩
    · cases hg
    · cases hg; exact ⟨_, _, hh⟩))
  go_wp2
  go_ret2
  refine ⟨rfl, ?_, ?_, ?_⟩
  · exact Lib.BuilderAt.put (T := 77) (e := 5) hB hb2 (bs' := bs ++ Lib.strCells s) (by simpa [Lib.strCells_length] using hown') (by decide)
  · exact (hb1.grown hgrow (by omega) (fun k hk => (hown.lt k hk).1)).setCell (p := ⟨b, 1, none⟩) hB _
  · exact HK2.out.setCell _ rfl _
theorem builder_iter {w : World} {B b k : Nat} {bs : List Value} {s : ByteArray} {m : Nat} (h : Lib.IsBuilder 77 5 B b bs w) (hk : w.heap[k]? = some (.stringIter s m)) (m' : Nat) : Lib.IsBuilder 77 5 B b bs (w.iterAt k s m') := by
  have go : ∀ p, Lib.BuilderAt 77 5 B b p bs w → Lib.BuilderAt 77 5 B b p bs (w.iterAt k s m') := by
    rintro p ⟨h1, v, h2, h3, h4⟩
    have hbk : b ≠ k := by rintro rfl; rw [hk] at h2; cases h2
    refine ⟨h1, v, by rw [Lib.iterAt_other _ _ _ _ _ hbk, h2], ?_, h4⟩
    obtain ⟨e0, e1⟩ := h3
    refine ⟨e0, ?_⟩
    rcases e1 with e1 | ⟨g, cap, cur, hv, hg, hh, rest⟩
    · exact .inl e1
    · have hgk : g ≠ k := by rintro rfl; rw [hk] at hh; cases hh
      exact .inr ⟨g, cap, cur, hv, hg, by rw [Lib.iterAt_other _ _ _ _ _ hgk, hh], rest⟩
  rcases h with h | h
  · exact .inl (go _ h)
  · exact .inr (go _ h)
theorem enc_le (s : Sg) (c : Cm) (h : s.long c = false) : (s.enc c).length ≤ 32772 := by
  have tb : ∀ (t : ByteArray) (n : Nat), decide (n < t.size) = false → n ≤ 32768 → (Sg.txb t).length ≤ 32772 := by
    intro t n h1 h2
    have h3 := of_decide_eq_false h1
    unfold Sg.txb
    rw [List.length_append, Oc.big_length]
    show 4 + t.size ≤ _
    omega
  cases s
  · exact tb c.qn 32 h (by decide)
  · exact Nat.le_trans (Nat.le_of_eq (Oc.big_length 4 _)) (by decide)
  · exact Nat.le_trans (Nat.le_of_eq (Oc.big_length 8 _)) (by decide)
  · exact Nat.le_trans (Nat.le_of_eq (Oc.big_length 4 _)) (by decide)
  · exact tb c.qd 32 h (by decide)
  · exact tb c.bx 32 h (by decide)
  · exact Nat.le_trans (Nat.le_of_eq (Oc.big_length 1 _)) (by decide)
  · exact tb c.bp 512 h (by decide)
  · exact tb c.bq 32 h (by decide)
  · exact tb c.ex 32 h (by decide)
  · exact tb c.key 512 h (by decide)
  · exact tb c.body 32768 h (by decide)
  · exact Nat.le_trans (Nat.le_of_eq (Oc.big_length 8 _)) (by decide)
  · exact Nat.le_trans (Nat.le_of_eq (Oc.big_length 8 _)) (by decide)
  · exact Nat.le_trans (Nat.le_of_eq (Oc.big_length 8 _)) (by decide)
  · exact Nat.le_trans (Nat.le_of_eq (Oc.big_length 8 _)) (by decide)
  · exact Nat.le_trans (Nat.le_of_eq (Oc.big_length 1 _)) (by decide)
theorem encL_le (c : Cm) : ∀ (l : List Sg), (∀ s ∈ l, s.long c = false) → (l.flatMap fun s => s.enc c).length ≤ 32772 * l.length
  | [], _ => Nat.zero_le _
  | s :: l, h => by
    rw [List.flatMap_cons, List.length_append, List.length_cons]
    have h1 := enc_le s c (h s (by simp))
    have h2 := encL_le c l (fun t' ht => h t' (by simp [ht]))
    omega
theorem form_le (k : Int) : (form k).length ≤ 5 := by
  unfold form
  repeat' split
  all_goals decide
set_option maxRecDepth 1000000 in
theorem put_any (c : Cm) (hk : 1 ≤ c.kind ∧ c.kind ≤ 13) (hok : c.ok) (hl : ∀ s ∈ form c.kind, s.long c = false) (w : World) (hF : Forms w) :
    Calls Tryz.prog 58 #[c.agg] w fun e w' => e = .returned (.string (str (encC c))) ∧ Below w.heap.size w w' := by
  obtain ⟨hk1, hk2⟩ := hk
  have hC0 := (BxC.newC w c).alloc (.cells #[.pointer none, .slice none 0 0] 77)
  have hk00 := hC0.cell 0 _ rfl
  have HF0 := Lib.hid ((hF.alloc (objC c)).alloc (.cells #[.pointer none, .slice none 0 0] 77))
  have HC0 := Lib.hid hC0
  have HOK := Lib.hid hok
  have HL := Lib.hid hl
  have HO := Lib.hid (fun W => one_at c.kind c.kind.toNat (by omega) (by omega) W)
  have HB0 := Lib.hid (builder2 w (objC c))
  clear hF hC0 hok hl
  go_enter Tryz.func58, Tryz.ntmps58
  go_wp2_with (first
    | (go_at_call 99; refine (HO.out _).mono ?_; rintro e w1 ⟨rfl, hb1⟩)
    | (go_at_call 29; refine (writeString_k (w.heap.size + 1) (w.heap.size + 1) [] _ _ (builder_below HB0.out hb1 (Nat.le_refl _)) (by rw [big_size]; simp) (by have := hb1.size; simp at this; omega)).mono ?_; rintro e w2 ⟨rfl, hbld, hb2, _⟩; have hC2 := (HC0.out.below hb1).below' hb2 (Nat.lt_succ_self _); have hk02 := hC2.cell 0 _ rfl; have hF2 := ((HF0.out.below hb1 HF0.out.lt).below hb2 (by omega)); have hf := hF2 c.kind hk1 hk2))
  have hsz2 : w.heap.size + 2 ≤ w2.heap.size := by have := hb1.size; have := hb2.size; simp at *; omega
  have HSZ := Lib.hid hsz2
  have HB2 := Lib.hid (((((Below.refl w.heap.size w).alloc (Nat.le_refl _) (objC c)).alloc (by simp) (.cells #[.pointer none, .slice none 0 0] 77)).trans (hb1.mono (by simp; omega))).trans (hb2.mono (Nat.le_succ _)))
  have HC2 := Lib.hid hC2
  have HBL : Hid (Lib.IsBuilder 77 5 (w.heap.size + 1) (w.heap.size + 1) (Lib.byteCells (Oc.big 1 c.kind.toNat)) w2) := by
    have := hbld
    rw [strCells_str, List.nil_append] at this
    exact .inr this
  clear hbld hb1 hb2 hC2 hk02 hF2 hf hsz2 hk00 HF0 HC0 HB0 HO
  go_loopg [] (form c.kind).length (fun n wr => ∃ m, m + n = (form c.kind).length ∧ Lib.IsBuilder 77 5 (w.heap.size + 1) (w.heap.size + 1) (Lib.byteCells (Oc.big 1 c.kind.toNat ++ ((form c.kind).take m).flatMap fun s => s.enc c)) wr ∧ BxC wr w.heap.size c ∧ wr.heap[w2.heap.size]? = some (.stringIter (formS c.kind) m) ∧ Below w.heap.size w wr)
  case atStart => exact ⟨0, by omega, by rw [List.take_zero, List.flatMap_nil, List.append_nil]; exact builder_below HBL.out ((Below.refl _ _).alloc (Nat.le_refl _) (.stringIter (formS c.kind) 0)) (Nat.le_refl _), HC2.out.iter _ _, iter_at _ _ _, iter_below HB2.out (by have := HSZ.out; omega) _ _⟩
  case round =>
    obtain ⟨m, hm, hD, hC, hI, hB⟩ := hrel
    have hsz := HSZ.out
    by_cases hlt : m < (form c.kind).length
    · obtain ⟨s, hs⟩ : ∃ s, (form c.kind)[m]? = some s := ⟨_, List.getElem?_eq_getElem hlt⟩
      have hnx : ∀ ty, (Instr.next (.pointer (some ⟨w2.heap.size, 0, none⟩)) true ty).run Tryz.prog wr = _ := fun ty => next_sign Tryz.prog wr _ _ m s ty hI hs
      have hu := iter_upd wr w2.heap.size (formS c.kind) (m + 1)
      have hI1 := Lib.iterAt_heap wr w2.heap.size (formS c.kind) m (m + 1) hI
      have HD := Lib.hid (builder_iter hD hI (m + 1))
      have HC := Lib.hid (hC.upd hu (by omega))
      have HB := Lib.hid (Lib.below_iterAt hB (k := w2.heap.size) (by omega) (formS c.kind) (m + 1))
      have HI := Lib.hid hI1
      have HL2 := Lib.hid (show w2.heap.size < (wr.iterAt w2.heap.size (formS c.kind) (m + 1)).heap.size from (Array.getElem?_eq_some_iff.1 hI1).1)
      have HS := Lib.hid hs
      have HM := Lib.hid hm
      have HLE := Lib.hid (encL_le c ((form c.kind).take m) (fun t' ht => HL.out t' (List.mem_of_mem_take ht)))
      have HFL := Lib.hid (form_le c.kind)
      have HE1 := Lib.hid (enc_le s c (HL.out s (List.mem_of_getElem? hs)))
      clear hD hC hI hB hI1 hs hu hm hlt hsz
      go_wp2_with (first
        | (go_at_call 46; refine (field_any s _).mono ?_; rintro e w4 ⟨P, rfl, ⟨fh, fl, fp, fg, ch, cl, cp, cg, rfl, ⟨_, _, e3, _⟩, _, _, hP, _⟩, hb⟩; have HD4 := Lib.hid (builder_below HD.out hb (Nat.le_refl _)); have HC4 := Lib.hid (HC.out.below hb); have HB4 := Lib.hid (HB.out.trans (hb.mono (by have := HL2.out; have := HSZ.out; omega))); have HI4 := Lib.hid ((hb.block _ HL2.out).trans HI.out); have HH := Lib.hid (fun (W' : World) (hW : W'.heap = w4.heap) (h2 : BxC W' w.heap.size c) => hP W' _ _ (Stay.heap hW) h2 HOK.out (HL.out s (List.mem_of_getElem? HS.out))); unfold Ent at e3; have p0 := fun W => fpart2 fh fl fp fg ch cl cp cg W; clear hP)
        | ((with_reducible refine (HH.out _ rfl HC4.out).mono ?_); rintro e w5 ⟨rfl, hb5⟩)
        | (go_at_call 29; refine (writeString_k (w.heap.size + 1) (w.heap.size + 1) _ _ _ (builder_below HD4.out hb5 (Nat.le_refl _)) ?_ ?_).mono ?_))
      case refine_1 =>
        rw [byteCells_len, str_size, List.length_append, Oc.big_length]
        have h1 := HLE.out
        have h2 := HFL.out
        have h3 := HE1.out
        rw [List.length_take] at h1
        omega
      case refine_2 => have := HL2.out; have := HSZ.out; have := hb.size; have := hb5.size; omega
      rintro e w6 ⟨rfl, hbld, hb6, hk6⟩
      have hD6 : Lib.IsBuilder 77 5 (w.heap.size + 1) (w.heap.size + 1) (Lib.byteCells (Oc.big 1 c.kind.toNat ++ ((form c.kind).take (m + 1)).flatMap fun s => s.enc c)) w6 := by
        rw [strCells_str, byteCells_app, List.append_assoc] at hbld
        rw [List.take_add_one, HS.out]
        simp only [Option.toList_some, List.flatMap_append, List.flatMap_cons, List.flatMap_nil, List.append_nil]
        exact .inr hbld
      have hI6 := hk6.iter ((hb5.block _ (Array.getElem?_eq_some_iff.1 HI4.out).1).trans HI4.out) (by have := HSZ.out; omega)
      have hC6 := (HC4.out.below hb5).below' hb6 (Nat.lt_succ_self _)
      have hB6 := (HB4.out.trans (hb5.mono (Below.size HB4.out))).trans (hb6.mono (Nat.le_succ _))
      have H6 := Lib.hid (And.intro hD6 (And.intro hC6 (And.intro hI6 hB6)))
      clear hbld hb6 hk6 hD6 hC6 hI6 hB6
      go_wp2
      go_roundg (gk - 1)
      case rel =>
        have hm1 := HM.out
        have hl1 := (List.getElem?_eq_some_iff.1 HS.out).1
        obtain ⟨h1, h2, h3, h4⟩ := H6.out
        exact ⟨m + 1, by omega, h1, h2, h3, h4⟩
      case measure =>
        have hm1 := HM.out
        have hl1 := (List.getElem?_eq_some_iff.1 HS.out).1
        omega
    · obtain rfl : m = (form c.kind).length := by omega
      rw [List.take_length] at hD
      have hnx : ∀ ty, (Instr.next (.pointer (some ⟨w2.heap.size, 0, none⟩)) true ty).run Tryz.prog wr = _ := fun ty => next_end Tryz.prog wr _ _ ty hI
      have HD := Lib.hid hD
      have HB := Lib.hid hB
      have HWS := Lib.hid (show w.heap.size + 1 ≤ wr.heap.size by have := hB.size; have := (Array.getElem?_eq_some_iff.1 hI).1; omega)
      clear hD hC hI hB hlt hm hsz
      go_wp2_with (go_at_call 31; refine (Tryz.Builder_String_any (w.heap.size + 1) (w.heap.size + 1) _ _ HD.out HWS.out).mono ?_; rintro e w6 ⟨rfl, hb6⟩)
      go_ret
      exact ⟨rfl, HB.out.trans (hb6.mono (Nat.le_succ _))⟩
end Go.Proofs.YtoekggbbkcmknaaGreatDoor
/- The codec's Bytes; Bytes. -/
namespace Go.Proofs.YtoekggbbkcmknaaGreatDoor
open Go.RowKit
theorem resBy {w : World} {g : Nat} {t : ByteArray} {tmps : Array Value} (hp : tmps[4]? = some (.pointer (some ⟨g, 0, none⟩))) (hc : w.cell? ⟨g, 0, none⟩ = some (.string t)) :
    (results Tryz.f34 tmps).run Tryz.prog w = .ok (.string t) w := by
  simp [results, Tryz.results34, go_sem, hp, hc]
attribute [local go_sem ↓] zeroC_eq newC_eq loadC_eq storeC_eq buildC_eq zeroR_eq newR_eq loadR_eq storeR_eq buildR_eq
attribute [local go_sem] run_zeroC run_newC run_buildC0 run_buildC1 run_neqC run_eqlC run_guardC run_zeroR run_newR run_buildR0 run_buildR1 run_neqR run_eqlR run_guardR
attribute [local go_sem ↓] bslC_eq bslR_eq
attribute [local go_sem] run_bslC run_bslR
def fine (c : Cm) : Prop := wrongC c = 0
theorem fine_iff {c : Cm} (h : wrongC c = 0) : (1 ≤ c.kind ∧ c.kind ≤ 13) ∧ c = told c ∧ 0 ≤ c.bk ∧ c.bk ≤ 255 ∧ ∀ s ∈ form c.kind, s.long c = false := by
  unfold wrongC at h
  split at h
  · cases h
  · rename_i h1
    split at h
    · cases h
    · rename_i h2
      split at h
      · cases h
      · rename_i h3
        refine ⟨known_iff.1 (by simpa using h1), Classical.not_not.1 fun h => h2 (.inl h), ?_, ?_, fun s hs => ?_⟩
        · exact Int.not_lt.1 fun h => h2 (.inr (.inl h))
        · exact Int.not_lt.1 fun h => h2 (.inr (.inr h))
        · cases hl : s.long c with
          | false => rfl
          | true => exact absurd (List.any_eq_true.2 ⟨s, hs, hl⟩) h3
def bytesC (c : Cm) : ByteArray × Int := if wrongC c = 0 then (str (encC c), 0) else (⟨#[]⟩, wrongC c)
set_option maxHeartbeats 800000 in
theorem cBytes_any (c : Cm) (hok : c.ok) (hw : wrongC c = 0) (w : World) (hF : Forms w) :
    Calls Tryz.prog 34 #[(.agg #[.func (.func 58) #[] #[], .func (.func 18) #[] #[]] : Value), c.agg] w fun e w' => e = .returned (.string (str (encC c))) ∧ Below w.heap.size w w' := by
  have hmf : ∀ (fn : Fn) (first cap : Array Value) (w : World), (Instr.makeFunc fn first cap).run Tryz.prog w = .ok (.func fn first cap) w := fun _ _ _ _ => rfl
  have heq := func_nilB
  obtain ⟨hk, -, -, -, hl⟩ := fine_iff hw
  have HP := Lib.hid (fun W (hV : Forms W) => put_any c hk hok hl W hV)
  have HF := Lib.hid hF
  clear hw hk hl hF hok
  revert HP
  generalize str (encC c) = bt
  intro HP
  have hld : (loadC ⟨w.heap.size + 1, 0, none⟩).run Tryz.prog (((w.alloc (.cells #[.func (.func 58) #[] #[], .func (.func 18) #[] #[]] 87)).alloc (objC c)).alloc (.cells #[.string ⟨#[]⟩] 9)) = .ok c.agg (((w.alloc (.cells #[.func (.func 58) #[] #[], .func (.func 18) #[] #[]] 87)).alloc (objC c)).alloc (.cells #[.string ⟨#[]⟩] 9)) := by
    have h := (BxC.newC (w.alloc (.cells #[.func (.func 58) #[] #[], .func (.func 18) #[] #[]] 87)) c).alloc (.cells #[.string ⟨#[]⟩] 9)
    rw [World.size_alloc] at h
    exact run_loadC h
  go_enter_defers Tryz.func34, Tryz.ntmps34
  go_wp2_with (go_at_call 58; refine (HP.out _ (((HF.out.alloc _).alloc _).alloc _)).mono ?_; rintro e w1 ⟨rfl, hb⟩; have hc := hb.cell (p := ⟨w.heap.size + 1 + 1, 0, none⟩) (lt3 w _ _ _); have hz := hb.frozen (p := ⟨w.heap.size + 1 + 1, 0, none⟩) (lt3 w _ _ _))
  have hcs : (w1.setCell ⟨w.heap.size + 1 + 1, 0, none⟩ (.string bt)).cell? ⟨w.heap.size + 1 + 1, 0, none⟩ = some (.string bt) := World.cell?_setCell_same _ _ _ (u := .string ⟨#[]⟩) (hc.trans (cell3 w _ _ _ 9))
  refine leaves_cons (f := 59) (args := #[.pointer (some ⟨w.heap.size + 1 + 1, 0, none⟩)]) (by simp) (by simp [go_sem]) ?_
  refine (idleB ⟨w.heap.size + 1 + 1, 0, none⟩ _).mono ?_
  rintro e u' w'' ⟨rfl, rfl, rfl⟩
  simp [Leaves, settle]
  exact ⟨_, resBy rfl hcs, rfl, below_step' (below3 w _ _ _) hb |>.setCell (show w.heap.size ≤ w.heap.size + 1 + 1 by omega) _⟩
set_option maxHeartbeats 800000 in
theorem bytes_any (c : Cm) (hok : c.ok) (w : World) (hF : Forms w) :
    Calls Tryz.prog 10 #[c.agg] w fun e w' => e = .returned (.tuple #[.string (bytesC c).1, .int .i64 (bytesC c).2]) ∧ Below w.heap.size w w' := by
  have HW := Lib.hid (fun W (hV : Forms W) => wrong_any c W hV)
  have HF0 := Lib.hid (hF.alloc (objC c))
  have hl0 := run_loadC (BxC.newC w c)
  have HC0 := Lib.hid (BxC.newC w c)
  have HB0 := Lib.hid ((Below.refl w.heap.size w).alloc (Nat.le_refl _) (objC c))
  clear hF
  unfold bytesC
  by_cases hw : wrongC c = 0
  · rw [if_pos hw]
    have HBY := Lib.hid (fun W (hV : Forms W) => cBytes_any c hok hw W hV)
    rw [hw] at HW
    clear hw
    go_enter Tryz.func10, Tryz.ntmps10
    go_wp2_with (go_at_call 32; refine (HW.out _ HF0.out).mono ?_; rintro e w1 ⟨rfl, hb1⟩; have HS0 := Lib.hid (heldW0 (HC0.out.below hb1) (HF0.out.below hb1 HF0.out.lt)))
    go_region_held3 (fun w' => (loadC ⟨w.heap.size, 0, none⟩).run Tryz.prog w' = .ok c.agg w' ∧ w'.cell? ⟨w.heap.size, 7, none⟩ = some (.int .i64 c.bk) ∧ BxC w' w.heap.size c ∧ Forms w' ∧ Below w1.heap.size w1 w')
      ((first | assumption | exact HS0.out | exact heldWd HS0.out | exact heldW ‹_› hb | exact heldWd ‹_›))
      (first
        | (go_at_call 33; (with_reducible refine (codec_any _).mono ?_); rintro e w2 ⟨rfl, hb⟩)
        | (go_at_call 34; (with_reducible refine (HBY.out _ ?_).mono ?_); (next => exact heldForms (w0 := w1) (g := w.heap.size) (c := c) ‹_›); rintro e w2 ⟨rfl, hb⟩))
    rename_i hS
    have hx := hS.2.2.2.2
    clear hS
    go_wp2
    go_ret2
    exact ⟨rfl, HB0.out.trans ((hb1.trans (hx.mono hb1.size)).mono (by simp))⟩
  · rw [if_neg hw]
    have hw' : (wrongC c != 0) = true := by rw [bne_iff_ne]; exact hw
    clear hw
    revert HW hw'
    generalize wrongC c = x
    intro HW hw'
    go_enter Tryz.func10, Tryz.ntmps10
    go_wp2_with (go_at_call 32; refine (HW.out _ HF0.out).mono ?_; rintro e w1 ⟨rfl, hb1⟩)
    go_ret2
    exact ⟨rfl, HB0.out.trans (hb1.mono (by simp))⟩
end Go.Proofs.YtoekggbbkcmknaaGreatDoor
/- What a reader takes of bytes laid one behind the other. -/
namespace Go.Proofs.YtoekggbbkcmknaaGreatDoor
open Go.RowKit
theorem str_extract (l m : List UInt8) : (str (l ++ m)).extract 0 l.length = str l := by
  apply ByteArray.ext
  simp [str]
theorem str_extract' (l m : List UInt8) : (str (l ++ m)).extract l.length (str (l ++ m)).size = str m := by
  rw [str_size, List.length_append]
  apply ByteArray.ext
  simp [str]
theorem tk_str (l m : List UInt8) (k : Nat) (h : l.length = k) : tk (str (l ++ m)) 0 k = (str l, str m, 0) := by
  subst h
  rw [tk_ok _ _ (by rw [str_size, List.length_append]; omega), str_extract, str_extract']
theorem txt_str (l m : List UInt8) (most : Nat) (h : l.length < 4294967296) (hm : l.length ≤ most) : txt (str (Oc.big 4 l.length ++ (l ++ m))) 0 most = (str l, str m, 0) := by
  rw [txt_eq]
  have h4 : tk (str (Oc.big 4 l.length ++ (l ++ m))) 0 4 = (str (Oc.big 4 l.length), str (l ++ m), 0) := tk_str _ _ 4 (Oc.big_length _ _)
  rw [h4, str_data, Oc.val_big 4 _ h, if_neg (by rw [if_pos (by omega)]; omega)]
  exact tk_str l m l.length rfl
end Go.Proofs.YtoekggbbkcmknaaGreatDoor
/- What is written is read as it was; what is read would be written so: plain mathematics. -/
namespace Go.Proofs.YtoekggbbkcmknaaGreatDoor
open Go.RowKit
/-- Bytes and what follows them. -/
def ok4 (c : Cm) : Prop := c.qn.size < 4294967296 ∧ c.qd.size < 4294967296
theorem txt_back (t : ByteArray) (m : List UInt8) (most : Nat) (hm : t.size ≤ most) (h4 : most < 4294967296) : txt (str (Sg.txb t ++ m)) 0 most = (t, str m, 0) := by
  unfold Sg.txb
  rw [List.append_assoc]
  exact txt_str t.data.toList m most (Nat.lt_of_le_of_lt hm h4) hm
theorem tk_back (k n : Nat) (m : List UInt8) (h : n < 256 ^ k) : Oc.val (tk (str (Oc.big k n ++ m)) 0 k).1.data.toList = n ∧ (tk (str (Oc.big k n ++ m)) 0 k).2.1 = str m ∧ (tk (str (Oc.big k n ++ m)) 0 k).2.2 = 0 := by
  rw [tk_str (Oc.big k n) m k (Oc.big_length _ _)]
  exact ⟨by rw [str_data, Oc.val_big k n h], rfl, rfl⟩
theorem cm3 {a a' : Cm} {b b' : ByteArray} {e e' : Int} (h1 : a = a') (h2 : b = b') (h3 : e = e') : ((a, b, e) : Cm × ByteArray × Int) = (a', b', e') := by rw [h1, h2, h3]
theorem sg_back (s : Sg) (z c : Cm) (hok : c.ok) (h0 : 0 ≤ c.bk) (h255 : c.bk ≤ 255) (hl : s.long c = false) (m : List UInt8) :
    s.read (z, str (s.enc c ++ m), 0) = (s.hand z c, str m, 0) := by
  have tx : ∀ (t : ByteArray) (n : Nat), decide (n < t.size) = false → n < 4294967296 → txt (str (Sg.txb t ++ m)) 0 n = (t, str m, 0) := fun t n h1 h2 => txt_back t m n (Nat.le_of_not_lt (of_decide_eq_false h1)) h2
  cases s
  case q => have h := tx c.qn Sg.q.most hl (by decide); simp only [Sg.read, Sg.enc, h, Sg.hand]
  case d => have h := tx c.qd Sg.d.most hl (by decide); simp only [Sg.read, Sg.enc, h, Sg.hand]
  case E => have h := tx c.bx Sg.E.most hl (by decide); simp only [Sg.read, Sg.enc, h, Sg.hand]
  case P => have h := tx c.bp Sg.P.most hl (by decide); simp only [Sg.read, Sg.enc, h, Sg.hand]
  case Q => have h := tx c.bq Sg.Q.most hl (by decide); simp only [Sg.read, Sg.enc, h, Sg.hand]
  case e => have h := tx c.ex Sg.e.most hl (by decide); simp only [Sg.read, Sg.enc, h, Sg.hand]
  case k => have h := tx c.key Sg.k.most hl (by decide); simp only [Sg.read, Sg.enc, h, Sg.hand]
  case b => have h := tx c.body Sg.b.most hl (by decide); simp only [Sg.read, Sg.enc, h, Sg.hand]
  case m => obtain ⟨h1, h2, h3⟩ := tk_back 4 c.most m (by have := hok.most; simpa using this); exact cm3 (congrArg (fun n => ({ z with most := n } : Cm)) h1) h2 h3
  case r => obtain ⟨h1, h2, h3⟩ := tk_back 4 c.tries m (by have := hok.tries; simpa using this); exact cm3 (congrArg (fun n => ({ z with tries := n } : Cm)) h1) h2 h3
  case l => obtain ⟨h1, h2, h3⟩ := tk_back 8 c.ttl m (by have := hok.ttl; simpa using this); exact cm3 (congrArg (fun n => ({ z with ttl := n } : Cm)) h1) h2 h3
  case i => obtain ⟨h1, h2, h3⟩ := tk_back 8 c.id m (by have := hok.id; simpa using this); exact cm3 (congrArg (fun n => ({ z with id := n } : Cm)) h1) h2 h3
  case o => obtain ⟨h1, h2, h3⟩ := tk_back 8 c.token m (by have := hok.token; simpa using this); exact cm3 (congrArg (fun n => ({ z with token := n } : Cm)) h1) h2 h3
  case n => obtain ⟨h1, h2, h3⟩ := tk_back 8 c.n m (by have := hok.n; simpa using this); exact cm3 (congrArg (fun n => ({ z with n := n } : Cm)) h1) h2 h3
  case t => obtain ⟨h1, h2, h3⟩ := tk_back 8 c.time m (by have := hok.time; simpa using this); exact cm3 (congrArg (fun n => ({ z with time := n } : Cm)) h1) h2 h3
  case K =>
    have hw : IntKind.u8.wrap c.bk = c.bk := by unfold IntKind.wrap; simp [IntKind.signed, IntKind.bits]; omega
    obtain ⟨h1, h2, h3⟩ := tk_back 1 (IntKind.u8.wrap c.bk).toNat m (by rw [hw]; omega)
    refine cm3 (congrArg (fun n : Int => ({ z with bk := n } : Cm)) ?_) h2 h3
    have h1' : ((Oc.val (tk (str (Oc.big 1 (IntKind.u8.wrap c.bk).toNat ++ m)) 0 (1 : Nat)).1.data.toList : Nat) : Int) = (((IntKind.u8.wrap c.bk).toNat : Nat) : Int) := congrArg _ h1
    refine h1'.trans ?_
    rw [hw]; omega
  case x =>
    obtain ⟨h1, h2, h3⟩ := tk_back 1 (if c.dead then 1 else 0) m (by split <;> decide)
    have hle : ¬ 1 < Oc.val (tk (str (Oc.big 1 (if c.dead then 1 else 0) ++ m)) 0 (1 : Nat)).1.data.toList := by
      intro h; have := h1 ▸ h; split at this <;> omega
    refine cm3 (congrArg (fun n => ({ z with dead := n } : Cm)) ?_) h2 ((if_neg hle).trans h3)
    show decide (Oc.val (tk (str (Oc.big 1 (if c.dead then 1 else 0) ++ m)) 0 (1 : Nat)).1.data.toList = 1) = c.dead
    rw [show Oc.val (tk (str (Oc.big 1 (if c.dead then 1 else 0) ++ m)) 0 (1 : Nat)).1.data.toList = (if c.dead then 1 else 0) from h1]
    cases c.dead <;> rfl
theorem sgs_back (c : Cm) (hok : c.ok) (h0 : 0 ≤ c.bk) (h255 : c.bk ≤ 255) : ∀ (l : List Sg) (z : Cm) (_ : ∀ s ∈ l, s.long c = false) (m : List UInt8),
    readL l (z, str ((l.flatMap fun s => s.enc c) ++ m), 0) = (l.foldl (fun t s => s.hand t c) z, str m, 0)
  | [], _, _, _ => rfl
  | s :: l, z, h, m => by
    show readL l (s.read (z, str (((s :: l).flatMap fun s => s.enc c) ++ m), 0)) = _
    rw [List.flatMap_cons, List.append_assoc, sg_back s z c hok h0 h255 (h s (by simp))]
    exact sgs_back c hok h0 h255 l _ (fun t' ht => h t' (by simp [ht])) m
/-- What is written is read as it was. -/
theorem readR_back (c : Cm) (hok : c.ok) (hw : wrongC c = 0) (m : List UInt8) : readR (str (encC c ++ m)) 0 = (c, str m, 0) := by
  obtain ⟨⟨hk1, hk2⟩, ht, h0, h255, hl⟩ := fine_iff hw
  unfold readR encC
  rw [List.append_assoc]
  obtain ⟨h1, h2, h3⟩ := tk_back 1 c.kind.toNat ((form c.kind).flatMap (fun s => s.enc c) ++ m) (by omega)
  have h1' : Oc.val (tk (str (Oc.big 1 c.kind.toNat ++ ((form c.kind).flatMap (fun s => s.enc c) ++ m))) 0 1).1.data.toList = c.kind.toNat := h1
  have h2' : (tk (str (Oc.big 1 c.kind.toNat ++ ((form c.kind).flatMap (fun s => s.enc c) ++ m))) 0 1).2.1 = _ := h2
  have h3' : (tk (str (Oc.big 1 c.kind.toNat ++ ((form c.kind).flatMap (fun s => s.enc c) ++ m))) 0 1).2.2 = 0 := h3
  simp only
  rw [h1', h2', h3', Int.toNat_of_nonneg (by omega), if_pos (known_iff.2 ⟨hk1, hk2⟩), sgs_back c hok h0 h255 _ _ hl m]
  unfold told at ht
  rw [← ht]
/-- Several, one behind the other. -/
theorem getsD_back (m : List UInt8) : ∀ (l : List Cm) (_ : ∀ c ∈ l, c.ok ∧ wrongC c = 0), getsD l.length (str (l.flatMap encC ++ m)) 0 = (l, str m, 0)
  | [], _ => rfl
  | c :: l, h => by
    obtain ⟨h1, h2⟩ := h c (by simp)
    rw [List.length_cons, getsD_succ, List.flatMap_cons, List.append_assoc, readR_back c h1 h2]
    simp only
    rw [getsD_back m l (fun d hd => h d (by simp [hd]))]
/-- What Batch makes. -/
def batchB (l : List Cm) : ByteArray := str (Oc.big 4 l.length ++ l.flatMap encC)
theorem listD_back (l : List Cm) (hl : l.length ≤ 64) (h : ∀ c ∈ l, c.ok ∧ wrongC c = 0) : listD (batchB l) = (l, 0) := by
  unfold listD cntD batchB
  obtain ⟨h1, h2, h3⟩ := tk_back 4 l.length (l.flatMap encC) (by omega)
  have h1' : Oc.val (tk (str (Oc.big 4 l.length ++ l.flatMap encC)) 0 4).1.data.toList = l.length := h1
  have h2' : (tk (str (Oc.big 4 l.length ++ l.flatMap encC)) 0 4).2.1 = _ := h2
  have h3' : (tk (str (Oc.big 4 l.length ++ l.flatMap encC)) 0 4).2.2 = 0 := h3
  simp only
  rw [h1', h2', h3', if_neg (by omega)]
  have hg := getsD_back [] l h
  rw [List.append_nil] at hg
  rw [hg]
  rfl
theorem batch_back (l : List Cm) (hl : l.length ≤ 64) (h : ∀ c ∈ l, c.ok ∧ wrongC c = 0) : (listC (batchB l) 64) = (l, 0) := by
  have h0 := listD_back l hl h
  have h1 := list_err (batchB l)
  have h2 := list_ok (batchB l) (by rw [h0])
  rw [h0] at h1 h2
  exact Prod.ext h2 h1
end Go.Proofs.YtoekggbbkcmknaaGreatDoor
/- A row that is handed in: of no things the address may be any. -/
namespace Go.Proofs.YtoekggbbkcmknaaGreatDoor
open Go.RowKit
attribute [local go_sem ↓] zeroC_eq newC_eq loadC_eq storeC_eq buildC_eq zeroR_eq newR_eq loadR_eq storeR_eq buildR_eq
attribute [local go_sem] run_zeroC run_newC run_buildC0 run_buildC1 run_neqC run_eqlC run_guardC run_zeroR run_newR run_buildR0 run_buildR1 run_neqR run_eqlR run_guardR
attribute [local go_sem ↓] bslC_eq bslR_eq
attribute [local go_sem] run_bslC run_bslR
/-- A slice that shows a row; of no things its address may be any. -/
structure SlW (w : World) (v : Value) (l : List Cm) : Prop where
  get : ∃ (a : Option Addr) (b o c : Nat), v = .slice a l.length c ∧ (l ≠ [] → a = some ⟨b, o, none⟩) ∧ CellsAt Cm.vals 18 w b o l
theorem SlW.below {w w' : World} {v : Value} {l : List Cm} (h : SlW w v l) (hb : Below w.heap.size w w') : SlW w' v l := by
  obtain ⟨a, b, o, c, h1, h2, h3⟩ := h.get
  exact ⟨a, b, o, c, h1, h2, h3.below rfl hb⟩
theorem SlW.slice {w : World} {v : Value} {l : List Cm} (h : SlW w v l) : ∃ a c, v = .slice a l.length c := by
  obtain ⟨a, _, _, c, h1, _⟩ := h.get
  exact ⟨a, c, h1⟩
theorem SlG.w {w : World} {v : Value} {l : List Cm} (h : SlG Cm.vals 18 w v l) : SlW w v l := by
  obtain ⟨a, b, o, c, h1, h2, _, h4, h5, h6⟩ := h.get
  refine ⟨a, b, o, c, h1, fun hne => ?_, h6⟩
  rcases h5 with h | h
  · have := h4 h
    exact absurd (List.length_eq_zero_iff.1 (by omega)) hne
  · exact h
set_option maxHeartbeats 800000 in
theorem toW_any (v : Value) (l : List Cm) (hl : l.length ≤ 70) (w : World) (hv : SlW w v l) :
    Calls Tryz.prog 21 #[v] w fun e w' => ∃ v', e = .returned v' ∧ RowG Cm.vals 18 40 w' w.heap.size v' l ∧ Below w.heap.size w w' := by
  obtain ⟨a, b, o, c, rfl, hA, hx⟩ := hv.get
  have HX := Lib.hid hx
  have HL := Lib.hid hl
  have HA := Lib.hid hA
  clear hv hx hA
  go_enter Tryz.func21, Tryz.ntmps21
  go_wp2
  go_loopg [3, 8] l.length (fun n r i wr => ∃ k : Nat, k ≤ l.length ∧ n = l.length - k ∧ i = .int .i64 k ∧ Hid (RowG Cm.vals 18 40 wr w.heap.size r (l.take k)) ∧ Hid (Below w.heap.size w wr))
  case atStart => exact ⟨0, Nat.zero_le _, rfl, rfl, RowG.nil _ _ _ _ _, Below.refl _ _⟩
  case round =>
    obtain ⟨k, hk, rfl, rfl, HO, HB⟩ := hrel
    by_cases hlt : k < l.length
    · obtain ⟨x, hx⟩ : ∃ x, l[k]? = some x := ⟨_, List.getElem?_eq_getElem hlt⟩
      have hC := run_loadAtC (HX.out.below rfl HB.out) hx
      obtain rfl := HA.out (by intro h; rw [h] at hlt; cases hlt)
      have hn2 := BxC.newC wr (Cm.zero 0)
      have hst1 := run_storeC hn2 x
      obtain ⟨hn3, hu3⟩ := hn2.stored x
      have hld := run_loadC hn3
      have HX2 := Lib.hid (take_snocL hx)
      have HU := Lib.hid hu3
      have hsz3 := hu3.size
      have HSZ := Lib.hid hsz3
      have hB3 := (((below_alloc' wr (objC (Cm.zero 0))).mono HB.out.size)).trans (hu3.below HB.out.size)
      have HB3 := Lib.hid hB3
      have HO3 := Lib.hid (((HO.out.alloc (objC (Cm.zero 0)))).keep (fun g hg => hu3.block g (by have := (HO.out.lt g hg).2; omega)))
      have HTL := Lib.hid (show (l.take k).length ≤ 300000 by rw [List.length_take]; have := HL.out; omega)
      have HBS := Lib.hid (show w.heap.size ≤ (setFrom (wr.alloc (objC (Cm.zero 0))) wr.heap.size 0 x.vals).heap.size by rw [HSZ.out]; have := HB.out.size; simp; omega)
      clear hx hn2 hn3 hu3 hsz3 hB3
      go_wp2_with (at_builtin; obtain ⟨v', w4, hrun, hO4, hgrow, hB4, _⟩ := app1 (W := setFrom (wr.alloc (objC (Cm.zero 0))) wr.heap.size 0 x.vals) encV appR (by decide) _ x 0 HBS.out HO3.out HTL.out (Cm.vals x).toArray rfl _ rfl; refine Lib.wpList_append_run _ rfl _ _ _ _ rfl _ _ rfl rfl _ _ hrun ?_; have HK := Lib.hid (And.intro hO4 hB4))
      go_roundg (l.length - (k + 1))
      case measure => omega
      case rel =>
        have hO4' := HK.out.1
        have hL70 := HL.out
        rw [← HX2.out] at hO4'
        exact ⟨k + 1, by omega, rfl, by go_num, hO4', (HB.out.trans HB3.out).trans HK.out.2⟩
    · obtain rfl : k = l.length := by omega
      rw [List.take_length] at HO
      go_wp2
      go_ret
      exact ⟨_, rfl, HO.out, HB.out⟩
end Go.Proofs.YtoekggbbkcmknaaGreatDoor
/- The codec's List; Batch. -/
namespace Go.Proofs.YtoekggbbkcmknaaGreatDoor
open Go.RowKit
attribute [local go_sem ↓] zeroC_eq newC_eq loadC_eq storeC_eq buildC_eq zeroR_eq newR_eq loadR_eq storeR_eq buildR_eq
attribute [local go_sem] run_zeroC run_newC run_buildC0 run_buildC1 run_neqC run_eqlC run_guardC run_zeroR run_newR run_buildR0 run_buildR1 run_neqR run_eqlR run_guardR
attribute [local go_sem ↓] bslC_eq bslR_eq
attribute [local go_sem] run_bslC run_bslR
theorem encC_le (c : Cm) (hw : wrongC c = 0) : (encC c).length ≤ 163861 := by
  obtain ⟨_, _, _, _, hl⟩ := fine_iff hw
  have h1 := encL_le c (form c.kind) hl
  have h2 := form_le c.kind
  unfold encC
  rw [List.length_append, Oc.big_length]
  omega
theorem encCs_le : ∀ (l : List Cm), (∀ c ∈ l, wrongC c = 0) → (l.flatMap encC).length ≤ 163861 * l.length
  | [], _ => Nat.zero_le _
  | c :: l, h => by
    rw [List.flatMap_cons, List.length_append, List.length_cons]
    have h1 := encC_le c (h c (by simp))
    have h2 := encCs_le l (fun d hd => h d (by simp [hd]))
    omega
theorem encCs_snoc (l : List Cm) (k : Nat) (p : Cm) (h : l[k]? = some p) : (l.take (k + 1)).flatMap encC = (l.take k).flatMap encC ++ encC p := by
  rw [take_snocL h, List.flatMap_append]; simp
set_option maxHeartbeats 2000000 in
set_option maxRecDepth 100000 in
theorem cList_any (v : Value) (l : List Cm) (hll : l.length ≤ 64) (hl : ∀ c ∈ l, c.ok ∧ wrongC c = 0) (w : World) (hF : Forms w) (hv : SlW w v l) :
    Calls Tryz.prog 37 #[(.agg #[.func (.func 58) #[] #[], .func (.func 18) #[] #[]] : Value), v] w fun e w' => e = .returned (.string (batchB l)) ∧ Below w.heap.size w w' := by
  obtain ⟨a, b, o, c, rfl, hA, hx⟩ := hv.get
  have HA := Lib.hid hA
  have HL := Lib.hid hl
  have HX := Lib.hid hx
  have HF := Lib.hid hF
  clear hl hx hv hA hF
  have hlu : l.length < 4294967296 := by omega
  go_enter Tryz.func37, Tryz.ntmps37
  go_wp2_with (first
    | (go_at_call 60; refine (four_at _ l.length (by omega) hlu _).mono ?_; rintro e w1 ⟨rfl, hb1⟩)
    | (go_at_call 29; refine (writeString_any (w.heap.size + 1) (w.heap.size + 1) [] _ _ (builder_below (builder2 w _) hb1 (Nat.le_refl _)) (by rw [big_size]; simp) (by have := hb1.size; simp at this; omega)).mono ?_; rintro e w2 ⟨rfl, hbld, hb2⟩))
  have hsz0 : w.heap.size + 1 < w1.heap.size := by have := hb1.size; simp at this; omega
  have hBW : Below w.heap.size w w1 := ((((Below.refl _ _).alloc (Nat.le_refl _) _).alloc (by simp) _)).trans (hb1.mono (by simp; omega))
  have HB2 := Lib.hid (hBW.trans (hb2.mono (by omega)))
  have HS2 : Hid (w.heap.size + 1 < w2.heap.size) := Nat.lt_of_lt_of_le hsz0 hb2.size
  have HC : Hid (w2.cell? ⟨w.heap.size, 0, none⟩ = some (.func (.func 58) #[] #[]) ∧ w2.cell? ⟨w.heap.size, 1, none⟩ = some (.func (.func 18) #[] #[])) := by
    have h1 := box2 w (.func (.func 58) #[] #[]) (.func (.func 18) #[] #[]) 87 0 (.cells #[.pointer none, .slice none 0 0] 77)
    have k := fun i => (hb2.cell (p := ⟨w.heap.size, i, none⟩) (by show w.heap.size < w.heap.size + 1; omega)).trans (hb1.cell (p := ⟨w.heap.size, i, none⟩) (by show w.heap.size < _; simp; omega))
    exact ⟨(k 0).trans h1.1, (k 1).trans h1.2.1⟩
  have HBL : Hid (Lib.IsBuilder 77 5 (w.heap.size + 1) (w.heap.size + 1) (Lib.byteCells (Oc.big 4 l.length)) w2) := by
    have := hbld
    rw [strCells_str, List.nil_append] at this
    exact .inr this
  have HF2 := Lib.hid (HF.out.below HB2.out HF.out.lt)
  clear hbld hb1 hb2 hBW HF hsz0
  generalize hg : w.heap.size = g at HB2 HS2 HC HBL ⊢
  have HG := Lib.hid hg
  clear hg
  go_loopg [15] l.length (fun n i wr => ∃ k : Nat, k ≤ l.length ∧ n = l.length - k ∧ i = .int .i64 k ∧ Hid (Lib.IsBuilder 77 5 (g + 1) (g + 1) (Lib.byteCells (Oc.big 4 l.length ++ (l.take k).flatMap encC)) wr) ∧ Hid (Below (g + 1) w2 wr))
  case atStart => exact ⟨0, Nat.zero_le _, rfl, rfl, by simpa using HBL, Below.refl _ _⟩
  case round =>
    obtain ⟨k, hk, rfl, rfl, HBd, HB⟩ := hrel
    have hgr : g + 1 < wr.heap.size := Nat.lt_of_lt_of_le HS2.out HB.out.size
    by_cases hlt : k < l.length
    · obtain ⟨p, hp⟩ : ∃ p, l[k]? = some p := ⟨_, List.getElem?_eq_getElem hlt⟩
      obtain ⟨hpo, hpw⟩ := HL.out p (List.mem_of_getElem? hp)
      have hxr := HX.out.below HG.out.symm (HB2.out.trans (HB.out.mono (Nat.le_succ g)))
      have hC := run_loadAtC hxr hp
      obtain rfl := HA.out (by intro h; rw [h] at hlt; cases hlt)
      have hn2 := BxC.newC wr (Cm.zero 0)
      have hst1 := run_storeC hn2 p
      obtain ⟨hn3, hu3⟩ := hn2.stored p
      have hld := run_loadC hn3
      have hbw : Below wr.heap.size wr (setFrom (wr.alloc (objC (Cm.zero 0))) wr.heap.size 0 p.vals) := (below_alloc' wr (objC (Cm.zero 0))).trans (hu3.below (Nat.le_refl _))
      have q0 := ((HB.out.cell (p := ⟨g, 0, none⟩) (Nat.lt_succ_self g)).trans HC.out.1)
      have q1 := ((HB.out.cell (p := ⟨g, 1, none⟩) (Nat.lt_succ_self g)).trans HC.out.2)
      have q2 := (hbw.cell (p := ⟨g, 0, none⟩) (by show g < _; omega)).trans q0
      have q3 := (hbw.cell (p := ⟨g, 1, none⟩) (by show g < _; omega)).trans q1
      have HS := Lib.hid (encCs_snoc l k p hp)
      have HLEN := Lib.hid (encCs_le (l.take k) (fun q hq => (HL.out q (List.mem_of_mem_take hq)).2))
      have HPL := Lib.hid (encC_le p hpw)
      have HFW := Lib.hid ((HF2.out.below HB.out (by omega)).below hbw (by omega))
      have HBW := Lib.hid hbw
      have HGR := Lib.hid hgr
      have HBY := Lib.hid (fun W (hV : Forms W) => cBytes_any p hpo hpw W hV)
      clear hxr hn2 hn3 hu3 hbw q0 q1 hp hpo hpw hgr
      go_wp2_with (first
        | (go_at_call 34; refine (HBY.out _ HFW.out).mono ?_; rintro e w4 ⟨rfl, hb4⟩)
        | (go_at_call 29; refine (writeString_any (g + 1) (g + 1) _ _ _ (builder_below (builder_below HBd.out HBW.out (Nat.le_refl _)) hb4 (Nat.le_refl _)) ?_ ?_).mono ?_))
      case refine_1 =>
        rw [byteCells_len, str_size, List.length_append, Oc.big_length]
        have := HLEN.out
        have := HPL.out
        rw [List.length_take] at *
        omega
      case refine_2 => have := hb4.size; have := HBW.out.size; have := HGR.out; omega
      rintro e w5 ⟨rfl, hbld, hb5⟩
      have HBd5 : Hid (Lib.IsBuilder 77 5 (g + 1) (g + 1) (Lib.byteCells (Oc.big 4 l.length ++ (l.take (k + 1)).flatMap encC)) w5) := by
        rw [strCells_str, byteCells_app, List.append_assoc, ← HS.out] at hbld
        exact .inr hbld
      have HB5 : Hid (Below (g + 1) w2 w5) := ((HB.out.trans (HBW.out.mono (by have := HGR.out; omega))).trans (hb4.mono (by have := HBW.out.size; have := HGR.out; omega))).trans hb5
      clear hbld hb4 hb5
      go_wp2
      go_roundg (l.length - (k + 1))
      case measure => omega
      case rel => exact ⟨k + 1, by omega, rfl, by go_num, HBd5, HB5⟩
    · obtain rfl : k = l.length := by omega
      rw [List.take_length] at HBd
      go_wp2_with (go_at_call 31; refine (Tryz.Builder_String_any (g + 1) (g + 1) _ _ HBd.out (by omega)).mono ?_; rintro e w6 ⟨rfl, hb6⟩)
      go_ret
      exact ⟨rfl, by rw [HG.out]; exact (HB2.out.trans (HB.out.mono (Nat.le_succ g))).trans (hb6.mono (Nat.le_succ g))⟩
/-- What is wrong first. -/
def firstW : List Cm → Int
  | [] => 0
  | c :: l => if wrongC c = 0 then firstW l else wrongC c
theorem firstW_zero : ∀ (l : List Cm), firstW l = 0 → ∀ c ∈ l, wrongC c = 0
  | [], _, c, hc => by cases hc
  | d :: l, h, c, hc => by
    unfold firstW at h
    split at h
    · rename_i h0
      rcases List.mem_cons.1 hc with rfl | hc
      · exact h0
      · exact firstW_zero l h c hc
    · rename_i h0; exact absurd h h0
theorem firstW_at : ∀ (l : List Cm) (k : Nat) (c : Cm), l[k]? = some c → (∀ d ∈ l.take k, wrongC d = 0) → wrongC c ≠ 0 → firstW l = wrongC c
  | d :: l, 0, c, h, _, hc => by
    simp at h; subst h
    unfold firstW; rw [if_neg hc]
  | d :: l, k + 1, c, h, h0, hc => by
    unfold firstW
    rw [if_pos (h0 d (by simp))]
    exact firstW_at l k c (by simpa using h) (fun e he => h0 e (by simp [he])) hc
theorem firstW_all : ∀ (l : List Cm), (∀ c ∈ l, wrongC c = 0) → firstW l = 0
  | [], _ => rfl
  | c :: l, h => by unfold firstW; rw [if_pos (h c (by simp))]; exact firstW_all l (fun d hd => h d (by simp [hd]))
def batchR (l : List Cm) : ByteArray × Int := if 64 < l.length then (⟨#[]⟩, 6) else if firstW l = 0 then (batchB l, 0) else (⟨#[]⟩, firstW l)
set_option maxHeartbeats 2000000 in
set_option maxRecDepth 100000 in
theorem batch_any (v : Value) (l : List Cm) (hl : ∀ c ∈ l, c.ok) (w : World) (hF : Forms w) (hv : SlW w v l) :
    Calls Tryz.prog 12 #[v] w fun e w' => e = .returned (.tuple #[.string (batchR l).1, .int .i64 (batchR l).2]) ∧ Below w.heap.size w w' := by
  have HV := Lib.hid hv
  obtain ⟨a, b, o, c, rfl, hA, hx⟩ := hv.get
  have HA := Lib.hid hA
  have HL := Lib.hid hl
  have HX := Lib.hid hx
  have HF := Lib.hid hF
  clear hl hx hv hA hF
  by_cases h64 : 64 < l.length
  · have hr : batchR l = (⟨#[]⟩, 6) := by unfold batchR; rw [if_pos h64]
    rw [hr]
    have hg : (64 : Int) < (l.length : Int) := by omega
    clear hr h64
    go_enter Tryz.func12, Tryz.ntmps12
    go_wp2
    go_ret2
    exact ⟨rfl, Below.refl _ _⟩
  · have hg : decide ((64 : Int) < (l.length : Int)) = false := decide_eq_false (by omega)
    generalize hr : batchR l = R
    have HR := Lib.hid hr
    have H64 := Lib.hid h64
    clear hr h64
    go_enter Tryz.func12, Tryz.ntmps12
    go_wp2
    go_loopg [12] l.length (fun n i wr => ∃ k : Nat, k ≤ l.length ∧ n = l.length - k ∧ i = .int .i64 k ∧ Hid (∀ c ∈ l.take k, wrongC c = 0) ∧ Hid (Below w.heap.size w wr))
    case atStart => exact ⟨0, Nat.zero_le _, rfl, rfl, by intro c hc; simp at hc, Below.refl _ _⟩
    case round =>
      obtain ⟨k, hk, rfl, rfl, HE, HB⟩ := hrel
      by_cases hlt : k < l.length
      · obtain ⟨p, hp⟩ : ∃ p, l[k]? = some p := ⟨_, List.getElem?_eq_getElem hlt⟩
        have hC := run_loadAtC (HX.out.below rfl HB.out) hp
        obtain rfl := HA.out (by intro h; rw [h] at hlt; cases hlt)
        have hn2 := BxC.newC wr (Cm.zero 0)
        have hst1 := run_storeC hn2 p
        obtain ⟨hn3, hu3⟩ := hn2.stored p
        have hld := run_loadC hn3
        have HBW := Lib.hid ((below_alloc' wr (objC (Cm.zero 0))).trans (hu3.below (Nat.le_refl _)))
        have HFW := Lib.hid ((HF.out.below HB.out HF.out.lt).below HBW.out (HF.out.below HB.out HF.out.lt).lt)
        have HW := Lib.hid (fun W (hV : Forms W) => wrong_any p W hV)
        have HP := Lib.hid hp
        have hk64 : k < 64 := by have := H64.out; omega
        clear hn2 hn3 hu3 hp
        by_cases hw : wrongC p = 0
        · have HW0 := Lib.hid hw
          rw [hw] at HW
          clear hw
          go_wp2_with (go_at_call 32; refine (HW.out _ HFW.out).mono ?_; rintro e w1 ⟨rfl, hb1⟩)
          go_roundg (l.length - (k + 1))
          case measure => omega
          case rel =>
            have h64 := H64.out
            refine ⟨k + 1, by omega, rfl, by go_num, ?_, ((HB.out.trans (HBW.out.mono HB.out.size)).trans (hb1.mono (by have := HB.out.size; have := HBW.out.size; omega)))⟩
            intro c hc
            rw [take_snocL HP.out] at hc
            rcases List.mem_append.1 hc with hc | hc
            · exact HE.out c hc
            · simp at hc; subst hc; exact HW0.out
        · have hne : (wrongC p != 0) = true := by rw [bne_iff_ne]; exact hw
          have HR2 : Hid (R = (⟨#[]⟩, wrongC p)) := by
            have h1 := firstW_at l k p HP.out HE.out hw
            have h2 := HR.out
            unfold batchR at h2
            rw [if_neg H64.out, h1, if_neg hw] at h2
            exact h2.symm
          clear hw
          generalize wrongC p = x at HW hne HR2
          go_wp2_with (go_at_call 32; refine (HW.out _ HFW.out).mono ?_; rintro e w1 ⟨rfl, hb1⟩)
          go_ret2
          rw [HR2.out]
          exact ⟨rfl, ((HB.out.trans (HBW.out.mono HB.out.size)).trans (hb1.mono (by have := HB.out.size; have := HBW.out.size; omega)))⟩
      · obtain rfl : k = l.length := by omega
        rw [List.take_length] at HE
        have HR2 : Hid (R = (batchB l, 0)) := by
          have h2 := HR.out
          unfold batchR at h2
          rw [if_neg H64.out, if_pos (firstW_all l HE.out)] at h2
          exact h2.symm
        have HCL := Lib.hid (fun W (hV : Forms W) (hs : SlW W (.slice a l.length c) l) => cList_any _ l (by have := H64.out; omega) (fun c hc => ⟨HL.out c hc, HE.out c hc⟩) W hV hs)
        have HFW := Lib.hid (HF.out.below HB.out HF.out.lt)
        have HVW := Lib.hid (HV.out.below HB.out)
        generalize batchB l = y at HCL HR2
        go_wp2_with (first
          | (go_at_call 33; refine (codec_any _).mono ?_; rintro e w1 ⟨rfl, hb1⟩)
          | (go_at_call 37; (with_reducible refine (HCL.out _ (HFW.out.below hb1 HFW.out.lt) (HVW.out.below hb1)).mono ?_); rintro e w2 ⟨rfl, hb2⟩))
        go_ret2
        rw [HR2.out]
        exact ⟨rfl, HB.out.trans ((below_step hb1 hb2).mono HB.out.size)⟩
end Go.Proofs.YtoekggbbkcmknaaGreatDoor
/- A range over a row of things whose rounds make memory, and may leave. -/
namespace Go.Proofs.YtoekggbbkcmknaaGreatDoor
open Go.RowKit
attribute [local go_sem] Oper.semAt_some
abbrev WF : Fence := Fence.wide
/-- What goes through a row of things, each of which a round takes or leaves at. -/
def SeqX {α : Type} (ar : α → Array Value) (n : Nat) (g : Nat) (lb : Array Value) (G : World → Prop) (E : List α) : Prop :=
  ∀ (l : Nat) (J X : List α → World → Prop) (W : World), (∀ pre W, J pre W → G W) → (∀ pre W q, J pre W → J pre (W.drewN q)) → (∀ pre W o, J pre W → J pre (W.alloc o)) →
    (∀ pre x W, J pre W → pre ++ [x] <+: E → YieldAt WF (n - 1) Tryz.prog l (ar x) W fun e W' => (e = .returned (.bool true) ∧ J (pre ++ [x]) W') ∨ (e = .returned (.bool false) ∧ X (pre ++ [x]) W')) → J [] W →
    CallsIn WF n Tryz.prog g (#[.func (.yield l) #[] #[]] ++ lb) W fun e W' => (∃ v, e = .returned v) ∧ (J E W' ∨ ∃ pre, X pre W')
/-- How a round's body may be left: it goes on, or leaves by this way. -/
def goesX {α : Type} (lv : Exit) (B : Nat) (I X : List α → World → Prop) (xs : List α) (W : World) (e : Exit) (_ : Act) (W' : World) : Prop :=
  (e = .normal ∧ KeepsFrom B W W' ∧ I xs W') ∨ (e = lv ∧ KeepsFrom B W W' ∧ X xs W')
/-- A range over a row of things. -/
theorem rangeX {α : Type} {ar : α → Array Value} {n : Nat} {g : Operand} {ps : Array Tmp} {assign body : Code} {Q : Exit → Act → World → Prop} {a : Act} {w : World} (h1 : 1 ≤ n) {gf : Nat} {lb : Array Value}
    (hg : a.eval g = .func (.func gf) #[] lb) (eg : ∀ args w, (callFunc gf args).run Tryz.prog w = .ok (.enter gf args) w) {G : World → Prop} {E : List α} (hseq : SeqX ar (n - 1) gf lb G E) (hps : ∀ x, (ar x).size = ps.size)
    (lv : Exit) (pc : Code) (hlv : (lv = .ret ∧ pc = .ret) ∨ ∃ id, lv = .exit id ∧ pc = .exit id)
    (I X : List α → World → Prop) (hI : OwnFrom w.heap.size I) (hX : OwnFrom w.heap.size X) (hIG : ∀ pre W, I pre W → G W) (hIq : ∀ pre W q, I pre W → I pre (W.drewN q)) (h0 : I [] w) (a₁ : α → World → Act) (wa : α → World → World) (hwa : ∀ x W, wa x W = W ∨ ∃ o, wa x W = W.alloc o)
    (hassign : ∀ (l : Nat) (x : α) (W : World) (K : Act → World → Prop), K (a₁ x W) (wa x W) →
      assign.wpIn (WF.inRound l) (n - 1 - 1) Tryz.prog (Exit.then K (fun _ _ _ => False)) { tmps := (ps.zip (ar x)).foldl (fun t (p, v) => t.setIfInBounds p v) a.tmps, defers := [] } W)
    (hbody : ∀ (l : Nat) (pre : List α) (x : α) (W W2 : World), (∃ k o, W2 = (wa x W).putObj k o ∧ k < W.heap.size ∧ w.heap.size ≤ k ∧ o.isCells = false) → I pre W2 → pre ++ [x] <+: E → body.wpIn (WF.inRound l) (n - 1 - 1) Tryz.prog (goesX lv w.heap.size I X (pre ++ [x]) W2) (a₁ x W) W2)
    (hdone : ∀ (D : Nat) (W : World), w.heap.size ≤ D → I E W → W.heap[D]? = some (.deferred (some [])) → Q .normal { a with defers := { target := .collected D, args := #[] } :: a.defers } W)
    (hstop : ∀ (D : Nat) (pre : List α) (W : World), w.heap.size ≤ D → X pre W → W.heap[D]? = some (.deferred (some [])) → pc.wpIn WF n Tryz.prog Q { a with defers := { target := .collected D, args := #[] } :: a.defers } W) :
    (Code.rangeFunc g ps assign body).wpIn WF n Tryz.prog Q a w := by
  refine wpIn_rangeFunc (fun fn hfn => ?_)
  rw [show WF.round = none from rfl]
  obtain ⟨lp, hlp⟩ : ∃ lp : LoopState → Option Code → Loop, lp = fun st pe => { state := st, pending := pe, fn, tmps := a.tmps, params := ps, assign, body, defers := w.heap.size } := ⟨_, rfl⟩
  obtain ⟨X0, hX0⟩ : ∃ X0, X0 = (w.alloc (.deferred (some []))).alloc (.loop (lp .ready none)) := ⟨_, rfl⟩
  have xl : X0.heap[w.heap.size + 1]? = some (.loop (lp .ready none)) := by
    rw [hX0]; have := heap_alloc_new (w.alloc (.deferred (some []))) (.loop (lp .ready none)); rwa [World.size_alloc] at this
  have xd : X0.heap[w.heap.size]? = some (.deferred (some [])) := by
    rw [hX0]; exact (Below.heap_alloc _ _ _ (by simp)).trans (heap_alloc_new w _)
  have xs : w.heap.size ≤ X0.heap.size := by rw [hX0]; simp; omega
  have xi : I [] X0 := by rw [hX0]; exact hI.alloc _ (hI.alloc _ h0)
  refine ⟨w.heap.size + 1, [{ target := .collected w.heap.size, args := #[] }], X0, { target := .fn (.func gf) lb, args := #[.func (.yield (w.heap.size + 1)) #[] #[]] }, X0, gf, #[.func (.yield (w.heap.size + 1)) #[] #[]] ++ lb, X0, ?_, ?_, fun _ _ => trivial, ?_, fun _ => h1, ?_⟩
  · rw [hX0, hlp]; exact run_enterLoop_outer _ _ _ _ _
  · simp only [resolve, hg]
    simp [go_sem]
  · simp [invoke, go_sem, eg]
  · have hold : ∀ (W : World) (o : Obj) (k : Nat) (v : Obj), W.heap[k]? = some v → (W.alloc o).heap[k]? = some v := fun W o k v h => (Below.heap_alloc W o k (Array.getElem?_eq_some_iff.1 h).1).trans h
    refine (hseq (w.heap.size + 1) (fun pre W => I pre W ∧ W.heap[w.heap.size + 1]? = some (.loop (lp .ready none)) ∧ W.heap[w.heap.size]? = some (.deferred (some [])))
      (fun pre W => X pre W ∧ W.heap[w.heap.size + 1]? = some (.loop (lp .done (some pc))) ∧ W.heap[w.heap.size]? = some (.deferred (some []))) X0 (fun pre W h => hIG pre W h.1) (fun pre W q h => ⟨hIq pre W q h.1, h.2⟩) (fun pre W o h => ⟨hI.alloc _ h.1, hold _ _ _ _ h.2.1, hold _ _ _ _ h.2.2⟩) ?_ ⟨xi, xl, xd⟩).mono ?_
    · rintro pre x W ⟨hi, hl, hk⟩ hlen
      have hlt : w.heap.size + 1 < W.heap.size := (Array.getElem?_eq_some_iff.1 hl).1
      have hy := run_yield (P := Tryz.prog) (args := ar x) hl (by rw [hlp]; exact hps x)
      rw [hlp] at hy
      obtain ⟨Wa, hWa⟩ : ∃ Wa, Wa = wa x W := ⟨_, rfl⟩
      obtain ⟨hai, hal, hak, has⟩ : I pre Wa ∧ Wa.heap[w.heap.size + 1]? = some (.loop (lp .ready none)) ∧ Wa.heap[w.heap.size]? = some (.deferred (some [])) ∧ W.heap.size ≤ Wa.heap.size := by
        rw [hWa]
        rcases hwa x W with h | ⟨o, h⟩
        · rw [h]; exact ⟨hi, hl, hk, Nat.le_refl _⟩
        · rw [h]; exact ⟨hI.alloc _ hi, hold _ _ _ _ hl, hold _ _ _ _ hk, by simp⟩
      refine ⟨fn, _, assign, body, hy, roundIn_of_wpIn hfn (hassign _ x W _ ⟨_, run_beginRound (by rw [← hWa]; exact hal) (by rw [hlp]), ?_⟩)⟩
      obtain ⟨W2, hW2⟩ : ∃ W2, W2 = Wa.putObj (w.heap.size + 1) (.loop { lp .ready none with state := .busy }) := ⟨_, rfl⟩
      have hl2 : W2.heap[w.heap.size + 1]? = some (.loop { lp .ready none with state := .busy }) := by rw [hW2]; exact World.putObj_heap_same (Nat.lt_of_lt_of_le hlt has)
      have hk2 : W2.heap[w.heap.size]? = some (.deferred (some [])) := by rw [hW2]; exact (World.putObj_heap_other (by omega)).trans hak
      have hi2 : I pre W2 := by rw [hW2]; exact hI.putObj _ hai (by omega) hal rfl
      rw [← hWa, ← hW2]
      refine wpIn_mono (hbody _ pre x W W2 ⟨w.heap.size + 1, _, by rw [hW2, hWa], hlt, by omega, rfl⟩ hi2 hlen) ?_
      rintro e a3 W3 hp
      rcases hp with ⟨rfl, hk3, hi3⟩ | ⟨rfl, hk3, hi3⟩
      · have hl3 := hk3.same _ _ (by omega) hl2 rfl
        have he := run_endRound (P := Tryz.prog) none hl3
        rw [hlp] at he hl3
        refine ⟨_, _, he, .inl ⟨rfl, hI.putObj _ hi3 (by omega) hl3 rfl, ?_, (World.putObj_heap_other (by omega)).trans (hk3.same _ _ (Nat.le_refl _) hk2 rfl)⟩⟩
        rw [hlp]; exact World.putObj_heap_same (Array.getElem?_eq_some_iff.1 hl3).1
      · have hl3 := hk3.same _ _ (by omega) hl2 rfl
        have he := run_endRound (P := Tryz.prog) (some pc) hl3
        have hX3 := hX.putObj (.loop (lp .done (some pc))) hi3 (Nat.le_succ w.heap.size) hl3 rfl
        rw [hlp] at he
        have hK3 : (W3.putObj (w.heap.size + 1) (.loop (lp .done (some pc)))).heap[w.heap.size]? = some (.deferred (some [])) := (World.putObj_heap_other (by omega)).trans (hk3.same _ _ (Nat.le_refl _) hk2 rfl)
        have hL3 : (W3.putObj (w.heap.size + 1) (.loop (lp .done (some pc)))).heap[w.heap.size + 1]? = some (.loop (lp .done (some pc))) := World.putObj_heap_same (Array.getElem?_eq_some_iff.1 hl3).1
        rw [hlp] at hX3 hK3 hL3
        rcases hlv with ⟨rfl, rfl⟩ | ⟨id, rfl, rfl⟩
        · exact ⟨_, _, he, .inr ⟨rfl, hX3, by rw [hlp]; exact hL3, hK3⟩⟩
        · exact ⟨_, _, he, .inr ⟨rfl, hX3, by rw [hlp]; exact hL3, hK3⟩⟩
    · rintro e W2 ⟨⟨v, rfl⟩, ⟨hi, hl, hk⟩ | ⟨pre, hi, hl, hk⟩⟩
      · exact ⟨none, _, by have := run_endLoop (P := Tryz.prog) hl (by rw [hlp]; simp); rw [hlp] at this; exact this, hdone _ _ (Nat.le_refl _) (hI.putObj _ hi (by omega) hl rfl) ((World.putObj_heap_other (by omega)).trans hk)⟩
      · exact ⟨some pc, _, by have := run_endLoop (P := Tryz.prog) hl (by rw [hlp]; simp); rw [hlp] at this; exact this, hstop _ pre _ (Nat.le_refl _) (hX.putObj _ hi (by omega) hl rfl) ((World.putObj_heap_other (by omega)).trans hk)⟩
end Go.Proofs.YtoekggbbkcmknaaGreatDoor
