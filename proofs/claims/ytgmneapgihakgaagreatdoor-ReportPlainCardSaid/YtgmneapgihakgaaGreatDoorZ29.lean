/- Texts of one seat, merged. -/
import Derived.Test.YtgmneapgihakgaaGreatDoorZ27
import Derived.Test.YtgmneapgihakgaaGreatDoorZ15
import Derived.Test.YtgmneapgihakgaaGreatDoorZ28
import Derived.Test.YtgmneapgihakgaaGreatDoorZ25
import Derived.Test.YtgmneapgihakgaaGreatDoorZ04
import Derived.Test.YtgmneapgihakgaaGreatDoorZ06
import Derived.Test.YtgmneapgihakgaaGreatDoorZ09
import Derived.Deep.LoopGhost
set_option maxRecDepth 100000
set_option maxHeartbeats 4000000
set_option linter.unusedVariables false
/- The chapter's example. -/
namespace Go.Proofs.YtgmneapgihakgaaGreatDoor
open Go.RowKit Go.Sort Go.Maps
theorem straightA {N : Nat} {M : Nat → Prop} {w : World} {p : Nat} {ks : List Txt} {f : Txt → Txt} (h : ShW N M w p ks f) (m : Int) (hm : w.cell? ⟨0, 0, none⟩ = some (.int .i64 m)) (hf : (findOut ks f [97]).2 = (true, 0)) :
    Calls Tryz.prog 82 #[.iface 25 (.pointer (some ⟨p, 0, none⟩)), .string ⟨#[97]⟩] w fun e w' => ∃ g, e = .returned (.tuple #[.slice (some ⟨g, 0, none⟩) 1 1, .int .i64 0]) ∧ w'.cell? ⟨g, 0, none⟩ = some (.string ⟨#[97]⟩) ∧ Below w.heap.size w w' ∧ w.heap.size ≤ g := by
  have HF : Hid (Calls Tryz.prog 15 #[.iface 25 (.pointer (some ⟨p, 0, none⟩)), .string ⟨#[97]⟩] w fun e w' => e = .returned (.tuple #[aggQ (findOut ks f [97]).1, .int .i64 0]) ∧ Below w.heap.size w w') := by
    have := Find_any h [97] (by decide) m hm
    rw [hf] at this
    exact this
  clear hm hf h
  revert HF
  generalize (findOut ks f [97]).1 = q
  intro HF
  unfold aggQ at HF
  go_enter Tryz.func82, Tryz.ntmps82
  go_wp2_with (go_at_call 15; refine HF.out.mono ?_; rintro e1 w1 ⟨rfl, hb1⟩)
  go_ret2
  have bb := (Below.refl w1.heap.size w1).alloc (Nat.le_refl _) (.cells #[.string q.nm, .int .u32 q.most, .int .u64 q.ttl, .int .u32 q.tries, .string q.dead] 36)
  refine ⟨_, rfl, ?_, hb1.trans ((bb.trans (((Below.refl _ _).alloc (Nat.le_refl _) _).mono bb.size)).mono hb1.size), by have := hb1.size; omega⟩
  have hc := (Boxed.new (w1.alloc (.cells #[.string q.nm, .int .u32 q.most, .int .u64 q.ttl, .int .u32 q.tries, .string q.dead] 36)) 9 (.string ⟨#[97]⟩)).cell
  rw [World.size_alloc] at hc
  exact hc
theorem routeA {N : Nat} {M : Nat → Prop} {w : World} {p : Nat} {ks : List Txt} {f : Txt → Txt} (h : ShW N M w p ks f) (m : Int) (hm : w.cell? ⟨0, 0, none⟩ = some (.int .i64 m)) (hf : (findOut ks f [97]).2 = (true, 0)) :
    Calls Tryz.prog 18 #[.iface 25 (.pointer (some ⟨p, 0, none⟩)), .string ⟨#[]⟩, .string ⟨#[97]⟩] w fun e w' => ∃ g, e = .returned (.tuple #[.slice (some ⟨g, 0, none⟩) 1 1, .int .i64 0]) ∧ w'.cell? ⟨g, 0, none⟩ = some (.string ⟨#[97]⟩) ∧ Below w.heap.size w w' ∧ w.heap.size ≤ g := by
  have h00 := World.block_lt_of_cell? _ _ hm
  obtain ⟨x0, x1, x2, bA⟩ := start3 w 9 52 43 (.string ⟨#[97]⟩) (.slice none 0 0) (.int .i64 0)
  have HS := Lib.hid (straightA (h.below bA) m ((bA.cell (p := ⟨0, 0, none⟩) h00).trans hm) hf)
  have HX1 := Lib.hid x1
  have HX2 := Lib.hid x2
  have HA := Lib.hid bA
  have k0 := x0.cell
  clear hm hf h x0 x1 x2 bA h00
  go_enter Tryz.func18, Tryz.ntmps18
  go_wp2_with (go_at_call 82; refine HS.out.mono ?_; rintro e1 w1 ⟨g, rfl, hg, hb1, hgl⟩; have y1 := (hb1.block _ HX1.out.lt).trans HX1.out; have y2 := (hb1.block _ HX2.out.lt).trans HX2.out; have c1 := Boxed.cell y1; have f1 := Boxed.frozen y1; have c2 := Boxed.cell y2; have f2 := Boxed.frozen y2; have HY1 := Lib.hid y1; have HY2 := Lib.hid y2)
  have z1 : Boxed ((w1.setCell ⟨w.heap.size + 1, 0, none⟩ (.slice (some ⟨g, 0, none⟩) 1 1)).setCell ⟨w.heap.size + 1 + 1, 0, none⟩ (.int .i64 0)) (w.heap.size + 1) 52 (.slice (some ⟨g, 0, none⟩) 1 1) := (Boxed.set _ HY1.out).other (by omega) _
  have z2 : Boxed ((w1.setCell ⟨w.heap.size + 1, 0, none⟩ (.slice (some ⟨g, 0, none⟩) 1 1)).setCell ⟨w.heap.size + 1 + 1, 0, none⟩ (.int .i64 0)) (w.heap.size + 1 + 1) 43 (.int .i64 0) := Boxed.set _ (Boxed.other HY2.out (by omega) _)
  have s1 := z1.cell
  have s2 := z2.cell
  have hgs : w.heap.size + 3 ≤ g := by simpa using hgl
  refine bodyPost_ret_by (v := .tuple #[.slice (some ⟨g, 0, none⟩) 1 1, .int .i64 0]) ?_ rfl ⟨g, rfl, ?_, ((below_step HA.out hb1).setCell (p := ⟨w.heap.size + 1, 0, none⟩) (by simp) _).setCell (p := ⟨w.heap.size + 1 + 1, 0, none⟩) (by simp; omega) _, by omega⟩
  · simp [results, Tryz.results18, go_sem, s1, s2]
  · exact (World.cell?_setCell_far _ ⟨w.heap.size + 1 + 1, 0, none⟩ ⟨g, 0, none⟩ _ (by simp; omega)).trans ((World.cell?_setCell_far _ ⟨w.heap.size + 1, 0, none⟩ ⟨g, 0, none⟩ _ (by simp; omega)).trans hg)
theorem shNewW (w : World) (f : Txt → Txt) :
    Calls Tryz.prog 12 #[.slice none 0 0] w fun e w' => ∃ p M, e = .returned (.pointer (some ⟨p, 0, none⟩)) ∧ ShW 0 M w' p [] f ∧ Below w.heap.size w w' ∧ ∀ k, M k → w.heap.size ≤ k := by
  refine (shNew0 w f).mono ?_
  rintro e w' ⟨p, sp, mb, B, v, rfl, hs, hb, h1, h2, h3, h4, h5⟩
  refine ⟨p, _, rfl, ⟨⟨sp, mb, B, 0, v, hs, fun k => Iff.rfl, Nat.le_refl _, Nat.le_refl _, h5, World.block_lt_of_cell? _ _ hs.c0⟩, fun k hk => by cases hk⟩, hb, fun k hk => ?_⟩
  rcases hk with e | e | e | e
  · omega
  · omega
  · omega
  · have := (hs.set.row.lt e).2; omega
theorem found_put {ks ks' : List Txt} {f : Txt → Txt} (ha : addS ks (kQ [97]) ks') : (findOut ks' (putF f (kQ [97]) (1 :: encQ (q0 [97]))) [97]).2 = (true, 0) := by
  have hl : (kQ [97]).length ≤ 255 := by decide
  have hm : kQ [97] ∈ ks' := (ha.2.1 _).2 (.inl rfl)
  unfold findOut
  rw [if_pos hl, decide_eq_true hm]
  have hv : shV ks' (putF f (kQ [97]) (1 :: encQ (q0 [97]))) (kQ [97]) = 1 :: encQ (q0 [97]) := by
    unfold shV putF
    rw [if_pos hm, if_pos rfl]
  rw [hv]
  have hr : (readG zQ (getQ (str [97])) (str (1 :: encQ (q0 [97])))).2 = 0 := by decide +kernel
  unfold fRes
  rw [if_neg (by decide), if_neg (by rw [hr]; decide)]
theorem below_went {M M' : Nat → Prop} {w w1 w2 : World} (hb : Below w.heap.size w w1) (hw : Went M M' w1 w2) (hM : ∀ k, M k → w.heap.size ≤ k) : Below w.heap.size w w2 :=
  ⟨hw.stays.os.trans hb.os, hw.stays.tape.trans hb.tape, hw.stays.output.trans hb.output, Nat.le_trans hb.size hw.stays.size, fun k hk => (hw.stays.same k (fun h => by have := hM k h; omega) (Nat.lt_of_lt_of_le hk hb.size)).trans (hb.block k hk)⟩
theorem find_none (f : Txt → Txt) : (findOut [] f [97]).2 = (false, 0) := by
  unfold findOut
  rw [if_pos (by decide), decide_eq_false (by simp)]
  rfl
set_option maxHeartbeats 4000000 in
theorem rgAwake (m : Int) (w : World) (hm : w.cell? ⟨0, 0, none⟩ = some (.int .i64 m)) :
    Calls Tryz.prog 10 #[] w fun e w' => e = .returned (.bool true) ∧ Below w.heap.size w w' := by
  have h00 := World.block_lt_of_cell? _ _ hm
  have HM : Hid (∀ W, Below w.heap.size w W → W.cell? ⟨0, 0, none⟩ = some (.int .i64 m)) := fun W hW => (hW.cell (p := ⟨0, 0, none⟩) h00).trans hm
  have HN := Lib.hid (shNewW w (fun _ => []))
  have hnil := fun q W => sh_not_nil W q
  clear hm h00
  go_enter Tryz.func10, Tryz.ntmps10
  go_wp2_with (first
    | (go_at_call 12; refine HN.out.mono ?_; rintro e1 w1 ⟨p, M, rfl, hs, hb1, hM⟩; have HS := Lib.hid hs; have HMM := Lib.hid hM; have hnp := hnil p; clear hs hM)
    | (go_at_call 19; refine (declare0 HS.out (by decide) [97] (by decide) m (HM.out _ hb1)).mono ?_; rintro e2 w2 (⟨h, _⟩ | ⟨_, h, _⟩ | ⟨_, _, rfl, M2, ks2, ha2, hs2, hw2⟩); (exact absurd (by rw [find_none]) h); (rw [find_none] at h; cases h); have HS2 := Lib.hid hs2; have HA2 := Lib.hid ha2; have HB2 : Hid (Below w.heap.size w w2) := below_went hb1 hw2 HMM.out; clear hs2 ha2 hw2)
    | (go_at_call 18; refine (routeA HS2.out m (HM.out _ HB2.out) (found_put HA2.out)).mono ?_; rintro e3 w3 ⟨g, rfl, hg, hb3, _⟩))
  go_ret
  exact ⟨rfl, below_step HB2.out hb3⟩
end Go.Proofs.YtgmneapgihakgaaGreatDoor
/- What the law of broken bytes asks of texts. -/
namespace Go.Proofs.YtgmneapgihakgaaGreatDoor
open Go.RowKit Go.Sort Go.Maps
open Tx (Rise At Ord above)
theorem two_rise {l : List Txt} {a b : Txt} (hr : Rise slt l) (hm : ∀ y, y ∈ l ↔ y = a ∨ y = b) (hab : slt a b = true) : l = [a, b] := by
  have irr : ∀ x, slt x x ≠ true := fun x h => by rw [sord.irr] at h; cases h
  have hne : a ≠ b := fun e => irr b (e ▸ hab)
  have hba : slt b a ≠ true := fun h => irr a (sord.tr hab h)
  match l, hr, hm with
  | [], _, hm => exact absurd ((hm a).2 (.inl rfl)) (by simp)
  | [x], _, hm =>
    have h1 := (hm a).2 (.inl rfl)
    have h2 := (hm b).2 (.inr rfl)
    simp at h1 h2
    exact absurd (h1.trans h2.symm) hne
  | x :: y :: t, hr, hm =>
    obtain ⟨hx, hr2⟩ := List.pairwise_cons.1 hr
    obtain ⟨hy, hr3⟩ := List.pairwise_cons.1 hr2
    have hxa : x = a := by
      rcases (hm x).1 (by simp) with e | e
      · exact e
      · subst e
        have h1 := (hm a).2 (.inl rfl)
        rcases List.mem_cons.1 h1 with e | h
        · exact absurd e hne
        · exact absurd (hx a h) hba
    subst hxa
    have hyb : y = b := by
      rcases (hm y).1 (by simp) with e | e
      · exact absurd (hx y (by simp)) (by rw [e]; exact irr _)
      · exact e
    subst hyb
    have ht : t = [] := by
      cases t with
      | nil => rfl
      | cons z t =>
        rcases (hm z).1 (by simp) with e | e
        · exact absurd (hx z (by simp)) (by rw [e]; exact irr _)
        · exact absurd (hy z (by simp)) (by rw [e]; exact irr _)
    rw [ht]
def kqa : Txt := kQ [97]
def kca : Txt := kC [97]
theorem kqa_eq : kqa = [2, 113, 0, 0, 2, 97, 0, 0] := by decide
theorem kca_eq : kca = [2, 99, 0, 0, 2, 97, 0, 0] := by decide
theorem kca_lt : slt kca kqa = true := by rw [kqa_eq, kca_eq]; decide
theorem between_a (f : Txt → Txt) : between [kca, kqa] f KQ UQ = [(kqa, f kqa)] := by
  unfold between notB ahead
  rw [kqa_eq, kca_eq]
  have h1 : slt [2, 99, 0, 0, 2, 97, 0, 0] KQ = true := by decide
  have h2 : slt [2, 113, 0, 0, 2, 97, 0, 0] KQ = false := by decide
  have h3 : slt [2, 113, 0, 0, 2, 97, 0, 0] UQ = true := by decide
  simp [h1, h2, h3]
/-- Are the bytes a counter's? -/
def wholeB (B : Txt) : Bool := decide (B.length = 9) && decide (B.head? = some 1)
/-- What the reader tells behind the first byte. -/
def kB (B : Txt) : Nat := Oc.val (tk (tk (str B) 0 1).2.1 (tk (str B) 0 1).2.2 8).1.data.toList
theorem val_one (c : UInt8) : Oc.val [c] = c.toNat := by simp [Oc.val]
theorem readU_math (B : Txt) : ((readG 0 getU (str B)).2 = 0 ↔ wholeB B = true) ∧ ((readG 0 getU (str B)).2 = 0 → (readG 0 getU (str B)).1 = kB B) := by
  cases B with
  | nil =>
    have h0 : tk (str []) 0 1 = (ByteArray.empty, str [], 3) := tk_short (str []) 1 (.inr (by decide))
    have hv : verG 0 getU (str []) 0 = (0, str [], 3) := by
      unfold verG
      rw [h0]
      rfl
    have hr : readG 0 getU (str []) = (0, 3) := by
      unfold readG
      rw [hv]
      rfl
    rw [hr]
    exact ⟨⟨fun h => (by cases h), fun h => (by cases h)⟩, fun h => (by cases h)⟩
  | cons c t =>
    have e1 : tk (str (c :: t)) 0 1 = (str [c], str t, 0) := tk_str [c] t 1 rfl
    by_cases hc : c = 1
    · subst hc
      have v1 : Oc.val (str [1]).data.toList = 1 := by decide
      by_cases h8 : 8 ≤ t.length
      · obtain ⟨u, v, rfl, hu⟩ : ∃ u v, t = u ++ v ∧ u.length = 8 := ⟨t.take 8, t.drop 8, (List.take_append_drop 8 t).symm, by simp; omega⟩
        have e8 : tk (str (u ++ v)) 0 8 = (str u, str v, 0) := tk_str u v 8 hu
        have hg : getU (str (u ++ v)) 0 = (Oc.val u, str v, 0) := by unfold getU; rw [e8]; rfl
        have hv : verG 0 getU (str (1 :: (u ++ v))) 0 = (Oc.val u, str v, 0) := by
          unfold verG
          rw [e1]
          simp only [v1, if_true]
          rw [hg]
          rfl
        have hk : kB (1 :: (u ++ v)) = Oc.val u := by unfold kB; rw [e1]; simp only; rw [e8]; rfl
        rw [hk]
        have hlen : (1 :: (u ++ v)).length = 9 + v.length := by simp; omega
        by_cases hv0 : v = []
        · subst hv0
          have hr : readG 0 getU (str (1 :: (u ++ []))) = (Oc.val u, 0) := by
            unfold readG
            rw [hv]
            rfl
          rw [hr]
          refine ⟨⟨fun _ => ?_, fun _ => rfl⟩, fun _ => rfl⟩
          unfold wholeB
          rw [hlen]
          rfl
        · have hvl : 0 < v.length := List.length_pos_iff.2 hv0
          have hr : (readG 0 getU (str (1 :: (u ++ v)))).2 = 4 := by
            unfold readG
            rw [hv]
            have hf : fin (str v) 0 = 4 := by unfold fin; rw [if_pos ⟨rfl, hvl⟩]
            simp only [hf]
            rfl
          rw [hr]
          refine ⟨⟨fun h => (by cases h), fun h => ?_⟩, fun h => (by cases h)⟩
          unfold wholeB at h
          rw [hlen] at h
          simp at h
          exact absurd h hv0
      · have e8 : tk (str t) 0 8 = (ByteArray.empty, str t, 3) := tk_short (str t) 8 (.inr (by have : (str t).size = t.length := rfl; omega))
        have hg : getU (str t) 0 = (0, str t, 3) := by unfold getU; rw [e8]; rfl
        have hv : verG 0 getU (str (1 :: t)) 0 = (0, str t, 3) := by
          unfold verG
          rw [e1]
          simp only [v1, if_true]
          rw [hg]
          rfl
        have hr : readG 0 getU (str (1 :: t)) = (0, 3) := by
          unfold readG
          rw [hv]
          rfl
        rw [hr]
        refine ⟨⟨fun h => (by cases h), fun h => ?_⟩, fun h => (by cases h)⟩
        unfold wholeB at h
        simp at h
        omega
    · have v1 : ¬ Oc.val (str [c]).data.toList = 1 := by
        show ¬ Oc.val [c] = 1
        rw [val_one]
        intro h
        exact hc (UInt8.toNat_inj.1 h)
      have hv : verG 0 getU (str (c :: t)) 0 = (0, str t, 4) := by
        unfold verG
        rw [e1]
        simp only [if_neg v1, if_true]
      have hr : readG 0 getU (str (c :: t)) = (0, 4) := by
        unfold readG
        rw [hv]
        rfl
      rw [hr]
      refine ⟨⟨fun h => (by cases h), fun h => ?_⟩, fun h => (by cases h)⟩
      unfold wholeB at h
      simp [hc] at h
theorem tk_e (s : ByteArray) (e n : Int) (h : e ≠ 0) : (tk s e n).2.2 = e := by rw [tk_bad s e n h]
theorem cnt_e (s : ByteArray) (e m x : Int) (h : e ≠ 0) : (cnt s e m x).2.2 = e := by
  unfold cnt
  rw [tk_bad s e 4 h]
  simp only [if_neg h]
  repeat (first | rfl | split)
theorem txt_e (s : ByteArray) (e m : Int) (h : e ≠ 0) : (txt s e m).2.2 = e := by
  unfold txt
  simp only
  rw [tk_e _ _ _ (by rw [cnt_e s e m 5 h]; exact h), cnt_e s e m 5 h]
theorem readQ_math (B : Txt) (nm : ByteArray) (h : wholeB B = true) : (readG zQ (getQ nm) (str B)).2 ≠ 0 := by
  unfold wholeB at h
  simp at h
  obtain ⟨hl, hh⟩ := h
  cases B with
  | nil => cases hl
  | cons c t =>
    obtain rfl : c = 1 := by simpa using hh
    have ht : t.length = 8 := by simpa using hl
    have e1 : tk (str (1 :: t)) 0 1 = (str [1], str t, 0) := tk_str [1] t 1 rfl
    obtain ⟨u, v, rfl, hu, hv⟩ : ∃ u v, t = u ++ v ∧ u.length = 4 ∧ v.length = 4 := ⟨t.take 4, t.drop 4, (List.take_append_drop 4 t).symm, by simp; omega, by simp; omega⟩
    have e4 : tk (str (u ++ v)) 0 4 = (str u, str v, 0) := tk_str u v 4 hu
    have e8 : tk (str v) 0 8 = (ByteArray.empty, str v, 3) := tk_short (str v) 8 (.inr (by have : (str v).size = v.length := rfl; omega))
    have eq : (getQ nm (str (u ++ v)) 0).2.2 = 3 := by
      unfold getQ
      rw [e4]
      simp only
      rw [e8]
      simp only
      rw [txt_e _ _ _ (by rw [tk_e _ _ _ (by decide)]; decide), tk_e _ _ _ (by decide)]
    have v1 : Oc.val (str [1]).data.toList = 1 := by decide
    unfold readG verG
    rw [e1]
    simp only [v1, if_true, eq]
    simp [fin]
end Go.Proofs.YtgmneapgihakgaaGreatDoor
/- The chapter's example of messages. -/
namespace Go.Proofs.YtgmneapgihakgaaGreatDoor
open Go.RowKit Go.Sort Go.Maps
theorem allOut_ok {w : World} {E : List (Ms × Int)} {e : Ending} {w' : World} (h : AllOut w E e w') (hE : ∀ x ∈ E, x.2 = 0) : ∃ a c, e = .returned (.tuple #[.slice a E.length c, .int .i64 0]) ∧ RowG cvMs 5 62 w' w.heap.size (.slice a E.length c) (E.map (·.1)) ∧ Below w.heap.size w w' := by
  cases h with
  | all v _ h1 hr hb =>
    obtain ⟨a, c, rfl⟩ := hr.slice
    rw [List.length_map] at hr ⊢
    exact ⟨a, c, rfl, hr, hb⟩
  | bad p x _ hp hx hb => exact absurd (hE x (hp.subset (by simp))) hx
def m0 : Ms := ⟨str [97], 1, 0, 5, ⟨#[]⟩⟩
theorem m0_fit : m0.fit := ⟨by decide, by decide, by decide, by decide, by decide⟩
theorem m0_add : addE [] m0 = 0 := by
  have h1 : keysE m0 = 0 := by decide
  unfold addE
  rw [if_neg (by omega), if_neg (by simp)]
theorem mK0 : mK m0 = [2, 109, 0, 0, 2, 97, 0, 0, 1, 0, 0, 0, 0, 0, 0, 0, 1] := by decide
theorem tK0 : tK m0 = [2, 101, 0, 0, 1, 0, 0, 0, 0, 0, 0, 0, 5, 2, 97, 0, 0, 1, 0, 0, 0, 0, 0, 0, 0, 1] := by decide
theorem KE_eq : KE = [2, 101, 0, 0] := by decide
theorem UD4 : UD 4 = [2, 101, 0, 0, 1, 0, 0, 0, 0, 0, 0, 0, 5] := by decide
theorem UD5 : UD 5 = [2, 101, 0, 0, 1, 0, 0, 0, 0, 0, 0, 0, 6] := by decide
theorem tm_lt : slt (tK m0) (mK m0) = true := by rw [mK0, tK0]; decide
theorem row4 (f : Txt → Txt) : between [tK m0, mK m0] f KE (UD 4) = [] := by
  unfold between notB ahead
  rw [mK0, tK0, KE_eq, UD4]
  have h1 : slt [2, 101, 0, 0, 1, 0, 0, 0, 0, 0, 0, 0, 5, 2, 97, 0, 0, 1, 0, 0, 0, 0, 0, 0, 0, 1] [2, 101, 0, 0] = false := by decide
  have h2 : slt [2, 109, 0, 0, 2, 97, 0, 0, 1, 0, 0, 0, 0, 0, 0, 0, 1] [2, 101, 0, 0] = false := by decide
  have h3 : slt [2, 101, 0, 0, 1, 0, 0, 0, 0, 0, 0, 0, 5, 2, 97, 0, 0, 1, 0, 0, 0, 0, 0, 0, 0, 1] [2, 101, 0, 0, 1, 0, 0, 0, 0, 0, 0, 0, 5] = false := by decide
  simp [h1, h2, h3]
theorem row5 (f : Txt → Txt) : between [tK m0, mK m0] f KE (UD 5) = [(tK m0, f (tK m0))] := by
  unfold between notB ahead
  rw [mK0, tK0, KE_eq, UD5]
  have h1 : slt [2, 101, 0, 0, 1, 0, 0, 0, 0, 0, 0, 0, 5, 2, 97, 0, 0, 1, 0, 0, 0, 0, 0, 0, 0, 1] [2, 101, 0, 0] = false := by decide
  have h2 : slt [2, 109, 0, 0, 2, 97, 0, 0, 1, 0, 0, 0, 0, 0, 0, 0, 1] [2, 101, 0, 0] = false := by decide
  have h3 : slt [2, 101, 0, 0, 1, 0, 0, 0, 0, 0, 0, 0, 5, 2, 97, 0, 0, 1, 0, 0, 0, 0, 0, 0, 0, 1] [2, 101, 0, 0, 1, 0, 0, 0, 0, 0, 0, 0, 6] = true := by decide
  have h4 : slt [2, 109, 0, 0, 2, 97, 0, 0, 1, 0, 0, 0, 0, 0, 0, 0, 1] [2, 101, 0, 0, 1, 0, 0, 0, 0, 0, 0, 0, 6] = false := by decide
  simp [h1, h2, h3, h4]
theorem find0 {ks : List Txt} {f : Txt → Txt} (hk : mK m0 ∈ ks) (hf : f (mK m0) = 1 :: encM m0) : dueE 5 (findM ks f [97] 1) = 0 := by
  have hl : (kM [97] 1).length ≤ 255 := by decide
  have hm : kM [97] 1 ∈ ks := hk
  have hv : shV ks f (kM [97] 1) = 1 :: encM m0 := by unfold shV; rw [if_pos hm]; exact hf
  have hr : (readG zM (getM (str [97]) 1) (str (1 :: encM m0))).2 = 0 := by decide +kernel
  have hr1 : (readG zM (getM (str [97]) 1) (str (1 :: encM m0))).1.expiry = 5 := by decide +kernel
  unfold findM
  rw [if_pos hl, decide_eq_true hm, hv]
  unfold fResM
  rw [if_neg (by decide), if_neg (by rw [hr]; decide)]
  unfold dueE
  rw [if_neg]
  rintro ⟨_, h⟩
  rcases h with h | h
  · cases h
  · exact h hr1
theorem ks_two {N : Nat} {M : Nat → Prop} {w : World} {p : Nat} {ks : List Txt} {f f0 : Txt → Txt} (h : ShW N M w p ks f) (ha : Added [] f0 m0 ks f) : ks = [tK m0, mK m0] := by
  obtain ⟨sp, mb, B, n, v, hs, _⟩ := h.ex
  refine two_rise hs.set.rise (fun y => ?_) tm_lt
  rw [ha.mem]
  constructor
  · rintro (e | ⟨_, e⟩ | e)
    · exact .inr e
    · exact .inl e
    · cases e
  · rintro (e | e)
    · exact .inr (.inl ⟨by decide, e⟩)
    · exact .inl e
def rd5 (ks : List Txt) (f : Txt → Txt) (x : Txt × Txt) : Ms × Int := ((findM ks f [97] 1).1, dueE 5 (findM ks f [97] 1))
theorem due5 {ks : List Txt} {f f0 : Txt → Txt} (hk : ks = [tK m0, mK m0]) (ha : Added [] f0 m0 ks f) : ∀ x ∈ between ks f KE (UD 5), DueRd ks f (rd5 ks f) x := by
  intro x hx
  have hx' : x ∈ between [tK m0, mK m0] f KE (UD 5) := hk ▸ hx
  rw [row5, ha.term (by decide)] at hx'
  obtain rfl : x = (tK m0, []) := by simpa using hx'
  exact ⟨5, [97], 1, by decide, by decide, by decide, by decide, rfl, rfl⟩
theorem E5 {ks : List Txt} {f f0 : Txt → Txt} (hk : ks = [tK m0, mK m0]) (ha : Added [] f0 m0 ks f) : upE zM0 ((between ks f KE (UD 5)).map (rd5 ks f)) = [((findM ks f [97] 1).1, 0)] := by
  have e : dueE 5 (findM ks f [97] 1) = 0 := find0 (by rw [hk]; simp) ha.val
  have hb : between ks f KE (UD 5) = [(tK m0, f (tK m0))] := by
    have := row5 f
    rw [← hk] at this
    exact this
  rw [hb, List.map_cons, List.map_nil, upE, upE]
  unfold rd5
  rw [if_pos e, e]
theorem ok5 {ks : List Txt} {f f0 : Txt → Txt} (hk : ks = [tK m0, mK m0]) (ha : Added [] f0 m0 ks f) : ∀ x ∈ upE zM0 ((between ks f KE (UD 5)).map (rd5 ks f)), x.2 = 0 := by
  rw [E5 hk ha]
  intro x hx
  obtain rfl := List.mem_singleton.1 hx
  rfl
theorem len5 {ks : List Txt} {f f0 : Txt → Txt} (hk : ks = [tK m0, mK m0]) (ha : Added [] f0 m0 ks f) : (upE zM0 ((between ks f KE (UD 5)).map (rd5 ks f))).length = 1 := by
  rw [E5 hk ha]; rfl
theorem bt4 {ks : List Txt} {f : Txt → Txt} (hk : ks = [tK m0, mK m0]) : between ks f KE (UD 4) = [] := by
  have := row4 f
  rw [← hk] at this
  exact this
theorem due4 {ks : List Txt} {f : Txt → Txt} (hk : ks = [tK m0, mK m0]) : ∀ x ∈ between ks f KE (UD 4), DueRd ks f (fun x => (zM0, 0)) x := by
  rw [bt4 hk]; intro x hx; cases hx
theorem ok4 {ks : List Txt} {f : Txt → Txt} (hk : ks = [tK m0, mK m0]) : ∀ x ∈ upE zM0 ((between ks f KE (UD 4)).map (fun _ => (zM0, 0))), x.2 = 0 := by
  rw [bt4 hk]; intro x hx; cases hx
theorem len4 {ks : List Txt} {f : Txt → Txt} (hk : ks = [tK m0, mK m0]) : (upE zM0 ((between ks f KE (UD 4)).map (fun _ => ((zM0, 0) : Ms × Int)))).length = 0 := by
  rw [bt4 hk]; rfl
set_option maxHeartbeats 4000000 in
theorem mAwake_any (m : Int) (w : World) (hm : w.cell? ⟨0, 0, none⟩ = some (.int .i64 m)) :
    Calls Tryz.prog 20 #[] w fun e w' => e = .returned (.bool true) ∧ Below w.heap.size w w' := by
  have h00 := World.block_lt_of_cell? _ _ hm
  have HM : Hid (∀ W, Below w.heap.size w W → W.cell? ⟨0, 0, none⟩ = some (.int .i64 m)) := fun W hW => (hW.cell (p := ⟨0, 0, none⟩) h00).trans hm
  have HN := Lib.hid (shNewW w (fun _ => []))
  have hnil := fun q W => sh_not_nil W q
  have HRA : Hid (∀ W, Below w.heap.size w W → Calls Tryz.prog 91 #[] W fun e w' => e = .returned (.bool true) ∧ Below W.heap.size W w') := fun W hW => by
    have H := Lib.hid (rgAwake m W (HM.out W hW))
    go_enter Tryz.func91, Tryz.ntmps91
    go_wp2_with (go_at_call 10; refine H.out.mono ?_; rintro e1 w1 ⟨rfl, hb1⟩)
    go_ret
    exact ⟨rfl, hb1⟩
  have HD : Hid (∀ (now : Nat) W p, now < 18446744073709551616 → Below w.heap.size w W → Calls Tryz.prog 28 #[.iface 25 (.pointer (some ⟨p, 0, none⟩)), .int .u64 now] W fun e w' => ∃ a, e = .returned (.func (.func 208) #[] #[.pointer (some ⟨a, 0, none⟩), .pointer (some ⟨a + 1, 0, none⟩), .pointer (some ⟨a + 1 + 1, 0, none⟩), .pointer (some ⟨a + 1 + 1 + 1, 0, none⟩)]) ∧ W.heap.size ≤ a ∧ DueB w' a W.heap.size p KE (UD now) ∧ Below W.heap.size W w') := fun now W p hn hW => mDue_any p now hn m W (HM.out W hW)
  clear hm h00
  go_enter Tryz.func20, Tryz.ntmps20
  go_wp2_with (first
    | (go_at_call 12; refine HN.out.mono ?_; rintro e1 w1 ⟨p, M, rfl, hs, hb1, hM⟩; have HS := Lib.hid hs; have HMM := Lib.hid hM; have hnp := hnil p; have HB1 := Lib.hid hb1; clear hs hM hb1)
    | (go_at_call 91; refine (HRA.out _ HB1.out).mono ?_; rintro e2 w2 ⟨rfl, hb2⟩; have HB2 := Lib.hid (below_step HB1.out hb2); have HS2 := Lib.hid (HS.out.below hb2); clear hb2)
    | (go_at_call 35; refine (madd_any HS2.out (by decide) m0 m0_fit m (HM.out _ HB2.out)).mono ?_; rintro e3 w3 (⟨h, _⟩ | ⟨_, rfl, M3, ks3, f3, hs3, hw3, ha3⟩); (exact absurd m0_add h); have HS3 := Lib.hid hs3; have HA3 := Lib.hid ha3; have HB3 : Hid (Below w.heap.size w w3) := below_went HB2.out hw3 (fun k hk => HMM.out k hk); have HK3 : Hid (ks3 = [tK m0, mK m0]) := ks_two hs3 ha3; clear hs3 hw3 ha3)
    | (go_at_call 28; have tok := HB5; refine (HD.out 5 _ p (by decide) HB5.out).mono ?_; rintro e6 w6 ⟨b, rfl, _, hd6, hb6⟩; have HD6 := Lib.hid hd6; have HB6 := Lib.hid (below_step HB5.out hb6); have HS6 := Lib.hid (HS5.out.below hb6); clear hd6 hb6)
    | (go_at_call 28; refine (HD.out 4 _ p (by decide) HB3.out).mono ?_; rintro e4 w4 ⟨a, rfl, _, hd4, hb4⟩; have HD4 := Lib.hid hd4; have HB4 := Lib.hid (below_step HB3.out hb4); have HS4 := Lib.hid (HS3.out.below hb4); clear hd4 hb4)
    | (go_at_call 26; have tok := HB6; refine (dueAll HS6.out (by decide) 5 b _ HD6.out (rd5 ks3 f3) (due5 HK3.out HA3.out) m (HM.out _ HB6.out)).mono ?_; rintro e7 w7 hq; obtain ⟨a7, c7, rfl, _, hb7⟩ := allOut_ok hq (ok5 HK3.out HA3.out); have HB7 := Lib.hid (below_step HB6.out hb7); rw [len5 HK3.out HA3.out]; clear hq hb7)
    | (go_at_call 26; refine (dueAll HS4.out (by decide) 4 a _ HD4.out (fun x => (zM0, 0)) (due4 HK3.out) m (HM.out _ HB4.out)).mono ?_; rintro e5 w5 hq; obtain ⟨a5, c5, rfl, _, hb5⟩ := allOut_ok hq (ok4 HK3.out); have HB5 := Lib.hid (below_step HB4.out hb5); have HS5 := Lib.hid (HS4.out.below hb5); rw [len4 HK3.out]; clear hq hb5))
  go_ret
  exact ⟨rfl, HB7.out⟩
end Go.Proofs.YtgmneapgihakgaaGreatDoor
/- The chapter's example of reports. -/
namespace Go.Proofs.YtgmneapgihakgaaGreatDoor
open Go.RowKit
theorem mAwakeX_any (m : Int) (w : World) (hm : w.cell? ⟨0, 0, none⟩ = some (.int .i64 m)) :
    Calls Tryz.prog 126 #[] w fun e w' => e = .returned (.bool true) ∧ Below w.heap.size w w' := by
  have H := Lib.hid (mAwake_any m w hm)
  clear hm
  go_enter Tryz.func126, Tryz.ntmps126
  go_wp2_with (go_at_call 20; refine H.out.mono ?_; rintro e1 w1 ⟨rfl, hb1⟩)
  go_ret
  exact ⟨rfl, hb1⟩
theorem dec1 : dec 1 = [49] := by unfold dec; rw [Lib.decDigits, dif_pos (by decide)]; rfl
theorem dec5 : dec 5 = [53] := by unfold dec; rw [Lib.decDigits, dif_pos (by decide)]; rfl
theorem head15 : str (headT 1 [5] [] [] ++ tailF (fun _ => []) []) = ⟨#[111, 107, 32, 49, 32, 105, 100, 115, 32, 91, 53, 93]⟩ := by
  unfold headT someT tailF
  rw [if_neg (by simp), if_pos rfl, if_pos rfl, List.map_cons, List.map_nil, Lib.join_one, dec1, dec5]
  rfl
theorem slp_none (w : World) : SlP (fun n : Nat => .int .u64 n) w (.slice none 0 0) [] := ⟨none, 0, 0, 0, rfl, .inl rfl, fun j x hj => by simp at hj⟩
theorem rpAwake_any (m : Int) (w : World) (hm : w.cell? ⟨0, 0, none⟩ = some (.int .i64 m)) :
    Calls Tryz.prog 39 #[] w fun e w' => e = .returned (.bool true) ∧ Below w.heap.size w w' := by
  have H := Lib.hid (mAwakeX_any m w hm)
  have HR : Hid (∀ W T, Calls Tryz.prog 47 #[.agg #[.int .i64 0, .int .u64 1, .slice (some ⟨W.heap.size, 0, none⟩) 1 1, .slice none 0 0, .slice none 0 0, .slice none 0 0]] (W.alloc (.cells #[.int .u64 5] T)) fun e w' => e = .returned (.string ⟨#[111, 107, 32, 49, 32, 105, 100, 115, 32, 91, 53, 93]⟩) ∧ Below W.heap.size W w') := fun W T => by
    have h := reply_ok (fun _ => []) 1 (by decide) [5] [] [] (.slice (some ⟨W.heap.size, 0, none⟩) 1 1) (.slice none 0 0) (.slice none 0 0) (.slice none 0 0) [] (W.alloc (.cells #[.int .u64 5] T))
      ⟨_, W.heap.size, 0, 1, rfl, .inr rfl, fun j x hj => by
        match j, hj with
        | 0, hj => cases hj; exact (Boxed.new W T (.int .u64 5)).cell
        | (j + 1), hj => simp at hj⟩ (slp_none _) (slp_none _) (SlV.nil _) (by simp) (by simp) (by simp) (by decide) (by decide) (by decide) (by decide) (by decide) (.inl ⟨by decide, by simp, by simp, by simp⟩) (fun m hm => by cases hm)
    rw [head15] at h
    exact h.mono fun e w' h => ⟨h.1, below_step ((Below.refl _ _).alloc (Nat.le_refl _) _) h.2⟩
  clear hm
  go_enter Tryz.func39, Tryz.ntmps39
  go_wp2_with (first
    | (go_at_call 126; refine H.out.mono ?_; rintro e1 w1 ⟨rfl, hb1⟩)
    | (go_at_call 47; (with_reducible refine (HR.out _ _).mono ?_); rintro e2 w2 ⟨rfl, hb2⟩))
  go_ret
  exact ⟨rfl, below_step hb1 hb2⟩
end Go.Proofs.YtgmneapgihakgaaGreatDoor
/- report.Lines: of each thing a line. -/
namespace Go.Proofs.YtgmneapgihakgaaGreatDoor
open Go.RowKit
theorem idleLnS (p : Addr) (w : World) :
    CallsD Tryz.prog 146 #[.pointer (some p)] .returning w fun e u' w' => e = .returned (.tuple #[]) ∧ u' = .returning ∧ w' = w := by
  refine callsD_of_wpS Tryz.func146 rfl fun c₀ cs hu => ?_
  apply wpS_seq
  apply wpS_region
  simp [wpOpsS, go_sem, recoverD, hu, Tryz.ntmps146, Exit.thenS]
  refine wpS_cond (t := false) (by simp [Act.eval, Array.replicate]) ?_
  simp only [Bool.false_eq_true, if_false]
  refine wpS_of_wp (wp_skip ?_)
  cases c₀
  simp_all [bodyPostS, results, Tryz.results146]
/-- The lines of things. -/
def linesF {α : Type} (F : α → List UInt8) (l : List α) : List UInt8 := l.flatMap (fun x => F x ++ [10])
theorem linesF_take {α : Type} (F : α → List UInt8) {l : List α} {k : Nat} {x : α} (h : l[k]? = some x) : linesF F (l.take (k + 1)) = linesF F (l.take k) ++ F x ++ [10] := by
  unfold linesF
  rw [List.take_add_one, h]
  simp
theorem linesF_le {α : Type} (F : α → List UInt8) (l : List α) (k : Nat) : (linesF F (l.take k)).length ≤ (linesF F l).length := by
  unfold linesF
  conv => rhs; rw [← List.take_append_drop k l, List.flatMap_append, List.length_append]
  omega
theorem linesF_len {α : Type} (F : α → List UInt8) : ∀ l : List α, l.length ≤ (linesF F l).length
  | [] => Nat.le_refl _
  | x :: t => by
    have := linesF_len F t
    unfold linesF at this ⊢
    rw [List.flatMap_cons, List.length_append, List.length_append, List.length_cons, List.length_singleton]
    omega
theorem start2L (w : World) (t0 : TypeId) (v0 : Value) : Boxed ((w.alloc (.cells #[v0] t0)).alloc (.cells #[.pointer none, .slice none 0 0] 209)) w.heap.size t0 v0 ∧ BX ((w.alloc (.cells #[v0] t0)).alloc (.cells #[.pointer none, .slice none 0 0] 209)) (w.heap.size + 1) (w.heap.size + 1) [] ∧ Below w.heap.size w ((w.alloc (.cells #[v0] t0)).alloc (.cells #[.pointer none, .slice none 0 0] 209)) := by
  refine ⟨(Boxed.new w _ _).alloc _, ?_, ((Below.refl _ _).alloc (Nat.le_refl _) _).alloc (by simp) _⟩
  have := BX.new (w.alloc (.cells #[v0] t0))
  rwa [World.size_alloc] at this
set_option maxHeartbeats 4000000 in
theorem linesS_any (l : List Txt) (v : Value) (F : Txt → Txt) (w : World) (hv : SlS w v l) (hlen : (linesF F l).length ≤ 100000000)
    (hf : ∀ x ∈ l, ∀ W, Calls Tryz.prog 57 #[.string (str x)] W fun e w' => e = .returned (.string (str (F x))) ∧ Below W.heap.size W w') :
    Calls Tryz.prog 56 #[v, .func (.func 57) #[] #[]] w fun e w' => e = .returned (.string (str (linesF F l))) ∧ Below w.heap.size w w' := by
  obtain ⟨a, b, o, c, rfl, ha, hx⟩ := hv
  have hmf : ∀ (fn : Fn) (first cap : Array Value) (w : World), (Instr.makeFunc fn first cap).run Tryz.prog w = .ok (.func fn first cap) w := fun _ _ _ _ => rfl
  have hne : ∀ W, (binOp .eql 127 (.func (.func 57) #[] #[]) .nilFunc).run Tryz.prog W = .ok (.bool false) W := fun W => by kernel_rfl
  have hll : l.length ≤ 100000000 := Nat.le_trans (linesF_len F l) hlen
  have HX := Lib.hid hx
  have HA := Lib.hid ha
  have HL := Lib.hid hlen
  have HF := Lib.hid hf
  have HST := Lib.hid (start2L w 9 (.string ⟨#[]⟩))
  clear hx ha hlen hf
  go_enter_defers Tryz.func56, Tryz.ntmps56
  go_upto_region 5 with fail
  revert HST
  generalize hg : w.heap.size = g
  generalize ((w.alloc (.cells #[.string ⟨#[]⟩] 9)).alloc (.cells #[.pointer none, .slice none 0 0] 209)) = w0
  intro HST
  have HG := Lib.hid hg
  have HB0 := Lib.hid HST.out.1
  have HW0 := Lib.hid HST.out.2.1
  have HE0 := Lib.hid HST.out.2.2
  have hgl : g + 1 < w0.heap.size := HW0.out.lt
  clear hg HST
  go_wp2
  go_loopg [13] l.length (fun n i wr => ∃ k : Nat, k ≤ l.length ∧ n = l.length - k ∧ i = .int .i64 (k : Nat) ∧ Hid (BX wr (g + 1) (g + 1) (linesF F (l.take k))) ∧ Hid (Boxed wr g 9 (.string ⟨#[]⟩)) ∧ Hid (Below g w wr))
  case atStart => exact ⟨0, Nat.zero_le _, rfl, rfl, HW0.out, HB0.out, HE0.out⟩
  case round =>
    obtain ⟨k, hk, rfl, rfl, HB, HC, HE⟩ := hrel
    by_cases hlt : k < l.length
    · obtain ⟨x, hx⟩ : ∃ x, l[k]? = some x := ⟨_, List.getElem?_eq_getElem hlt⟩
      have hc := HX.out k x hx
      have hblt : b < g := by rw [← HG.out]; exact World.block_lt_of_cell? _ _ hc
      have hc' : wr.cell? ⟨b, o + k, none⟩ = some (.string (str x)) := (HE.out.cell (p := ⟨b, o + k, none⟩) hblt).trans hc
      obtain rfl : a = some ⟨b, o, none⟩ := HA.out.resolve_left (by intro h; rw [h] at hlt; cases hlt)
      have HT := Lib.hid (linesF_take F hx)
      have HLE : Hid ((linesF F (l.take (k + 1))).length ≤ 100000000) := Nat.le_trans (linesF_le F l (k + 1)) HL.out
      have HFX := Lib.hid (HF.out x (List.mem_of_getElem? hx))
      have hl1 : Hid ((linesF F (l.take k)).length + (F x).length + 1 ≤ 100000000) := by have := HLE.out; rw [HT.out] at this; simp at this; show _ ≤ _; omega
      clear hx hc hblt
      go_wp2_with (first
        | (go_at_call 57; refine (HFX.out _).mono ?_; rintro e w1 ⟨rfl, hb1⟩; have HB1 := Lib.hid (HB.out.below hb1); have HC1 : Hid (Boxed w1 g 9 (.string ⟨#[]⟩)) := (hb1.block _ HC.out.lt).trans HC.out; have HE1 : Hid (Below g w w1) := HE.out.trans (hb1.mono (Nat.le_of_lt HC.out.lt)); clear hb1)
        | (go_at_call 116; refine (HB1.out.write (F x) (by have := hl1.out; omega)).mono ?_; rintro e w2 ⟨rfl, hb2, hw2⟩; have HB2 := Lib.hid hb2; have HC2 : Hid (Boxed w2 g 9 (.string ⟨#[]⟩)) := (hw2.block _ (Nat.lt_succ_self g)).trans HC1.out; have HE2 : Hid (Below g w w2) := HE1.out.trans (hw2.mono (Nat.le_succ g)); clear hb2 hw2)
        | (go_at_call 147; refine (HB2.out.byte 10 (by rw [List.length_append]; have := hl1.out; omega)).mono ?_; rintro e w3 ⟨rfl, hb3, hw3⟩; have HB3 := Lib.hid hb3; have HC3 : Hid (Boxed w3 g 9 (.string ⟨#[]⟩)) := (hw3.block _ (Nat.lt_succ_self g)).trans HC2.out; have HE3 : Hid (Below g w w3) := HE2.out.trans (hw3.mono (Nat.le_succ g)); clear hb3 hw3))
      go_roundg (l.length - (k + 1))
      case measure => omega
      case rel => exact ⟨k + 1, hlt, rfl, by go_num, by show BX _ _ _ _; rw [HT.out]; exact HB3.out, HC3.out, HE3.out⟩
    · obtain rfl : k = l.length := by omega
      have HB' : Hid (BX wr (g + 1) (g + 1) (linesF F l)) := by have := HB.out; rw [List.take_length] at this; exact this
      go_wp2_with (go_at_call 118; refine HB'.out.string.mono ?_; rintro e w1 ⟨rfl, hb1⟩; have x1 : Boxed w1 g 9 (.string ⟨#[]⟩) := (hb1.block _ (Nat.lt_succ_self g)).trans HC.out; have f1 := x1.frozen; have c1 := x1.cell; have HX1 := Lib.hid x1; have HE1 : Hid (Below g w w1) := HE.out.trans (hb1.mono (Nat.le_succ g)); clear hb1 x1)
      have xs : Boxed (w1.setCell ⟨g, 0, none⟩ (.string (str (linesF F l)))) g 9 (.string (str (linesF F l))) := HX1.out.set _
      have cs := xs.cell
      have HR : (results Tryz.f56 #[.slice a l.length c, .func (.func 57) #[] #[], undef, undef,
          .pointer (some ⟨g, 0, none⟩), .pointer (some ⟨g + 1, 0, none⟩), undef, u7,
          .func (.func 57) #[] #[], .bool false,
          .func (.func 146) #[] #[.pointer (some ⟨g, 0, none⟩)], .slice a l.length c,
          .int .i64 l.length, .int .i64 l.length, .bool false, u15, u16, u17, u18, u19,
          u20, u21, u22, .string (str (linesF F l))]).run Tryz.prog (w1.setCell ⟨g, 0, none⟩ (.string (str (linesF F l)))) = .ok (.string (str (linesF F l))) (w1.setCell ⟨g, 0, none⟩ (.string (str (linesF F l)))) := by
        simp [results, Tryz.results56, go_sem, cs]
      refine leaves_cons (f := 146) (args := #[.pointer (some ⟨g, 0, none⟩)]) (by simp) (by simp [go_sem]) ?_
      refine (idleLnS _ _).mono ?_
      rintro e u' w'' ⟨rfl, rfl, rfl⟩
      exact ⟨_, HR, rfl, by rw [HG.out]; exact HE1.out.setCell (p := ⟨g, 0, none⟩) (Nat.le_refl _) _⟩
end Go.Proofs.YtgmneapgihakgaaGreatDoor
/- report.Lines of bytes. -/
namespace Go.Proofs.YtgmneapgihakgaaGreatDoor
open Go.RowKit
theorem idleLnB (p : Addr) (w : World) :
    CallsD Tryz.prog 148 #[.pointer (some p)] .returning w fun e u' w' => e = .returned (.tuple #[]) ∧ u' = .returning ∧ w' = w := by
  refine callsD_of_wpS Tryz.func148 rfl fun c₀ cs hu => ?_
  apply wpS_seq
  apply wpS_region
  simp [wpOpsS, go_sem, recoverD, hu, Tryz.ntmps148, Exit.thenS]
  refine wpS_cond (t := false) (by simp [Act.eval, Array.replicate]) ?_
  simp only [Bool.false_eq_true, if_false]
  refine wpS_of_wp (wp_skip ?_)
  cases c₀
  simp_all [bodyPostS, results, Tryz.results148]
set_option maxHeartbeats 4000000 in
theorem linesB_any (l : List UInt8) (v : Value) (F : UInt8 → List UInt8) (w : World) (hv : SlP (fun x : UInt8 => .int .u8 (x.toNat : Int)) w v l) (hlen : (linesF F l).length ≤ 100000000)
    (hf : ∀ x ∈ l, ∀ W, Calls Tryz.prog 59 #[.int .u8 (x.toNat : Int)] W fun e w' => e = .returned (.string (str (F x))) ∧ Below W.heap.size W w') :
    Calls Tryz.prog 58 #[v, .func (.func 59) #[] #[]] w fun e w' => e = .returned (.string (str (linesF F l))) ∧ Below w.heap.size w w' := by
  obtain ⟨a, b, o, c, rfl, ha, hx⟩ := hv
  have hmf : ∀ (fn : Fn) (first cap : Array Value) (w : World), (Instr.makeFunc fn first cap).run Tryz.prog w = .ok (.func fn first cap) w := fun _ _ _ _ => rfl
  have hne : ∀ W, (binOp .eql 129 (.func (.func 59) #[] #[]) .nilFunc).run Tryz.prog W = .ok (.bool false) W := fun W => by kernel_rfl
  have hll : l.length ≤ 100000000 := Nat.le_trans (linesF_len F l) hlen
  have HX := Lib.hid hx
  have HA := Lib.hid ha
  have HL := Lib.hid hlen
  have HF := Lib.hid hf
  have HST := Lib.hid (start2L w 9 (.string ⟨#[]⟩))
  clear hx ha hlen hf
  go_enter_defers Tryz.func58, Tryz.ntmps58
  go_upto_region 5 with fail
  revert HST
  generalize hg : w.heap.size = g
  generalize ((w.alloc (.cells #[.string ⟨#[]⟩] 9)).alloc (.cells #[.pointer none, .slice none 0 0] 209)) = w0
  intro HST
  have HG := Lib.hid hg
  have HB0 := Lib.hid HST.out.1
  have HW0 := Lib.hid HST.out.2.1
  have HE0 := Lib.hid HST.out.2.2
  have hgl : g + 1 < w0.heap.size := HW0.out.lt
  clear hg HST
  go_wp2
  go_loopg [13] l.length (fun n i wr => ∃ k : Nat, k ≤ l.length ∧ n = l.length - k ∧ i = .int .i64 (k : Nat) ∧ Hid (BX wr (g + 1) (g + 1) (linesF F (l.take k))) ∧ Hid (Boxed wr g 9 (.string ⟨#[]⟩)) ∧ Hid (Below g w wr))
  case atStart => exact ⟨0, Nat.zero_le _, rfl, rfl, HW0.out, HB0.out, HE0.out⟩
  case round =>
    obtain ⟨k, hk, rfl, rfl, HB, HC, HE⟩ := hrel
    by_cases hlt : k < l.length
    · obtain ⟨x, hx⟩ : ∃ x, l[k]? = some x := ⟨_, List.getElem?_eq_getElem hlt⟩
      have hc := HX.out k x hx
      have hblt : b < g := by rw [← HG.out]; exact World.block_lt_of_cell? _ _ hc
      have hc' : wr.cell? ⟨b, o + k, none⟩ = some (.int .u8 (x.toNat : Int)) := (HE.out.cell (p := ⟨b, o + k, none⟩) hblt).trans hc
      obtain rfl : a = some ⟨b, o, none⟩ := HA.out.resolve_left (by intro h; rw [h] at hlt; cases hlt)
      have HT := Lib.hid (linesF_take F hx)
      have HLE : Hid ((linesF F (l.take (k + 1))).length ≤ 100000000) := Nat.le_trans (linesF_le F l (k + 1)) HL.out
      have HFX := Lib.hid (HF.out x (List.mem_of_getElem? hx))
      have hl1 : Hid ((linesF F (l.take k)).length + (F x).length + 1 ≤ 100000000) := by have := HLE.out; rw [HT.out] at this; simp at this; show _ ≤ _; omega
      clear hx hc hblt
      go_wp2_with (first
        | (go_at_call 59; refine (HFX.out _).mono ?_; rintro e w1 ⟨rfl, hb1⟩; have HB1 := Lib.hid (HB.out.below hb1); have HC1 : Hid (Boxed w1 g 9 (.string ⟨#[]⟩)) := (hb1.block _ HC.out.lt).trans HC.out; have HE1 : Hid (Below g w w1) := HE.out.trans (hb1.mono (Nat.le_of_lt HC.out.lt)); clear hb1)
        | (go_at_call 116; refine (HB1.out.write (F x) (by have := hl1.out; omega)).mono ?_; rintro e w2 ⟨rfl, hb2, hw2⟩; have HB2 := Lib.hid hb2; have HC2 : Hid (Boxed w2 g 9 (.string ⟨#[]⟩)) := (hw2.block _ (Nat.lt_succ_self g)).trans HC1.out; have HE2 : Hid (Below g w w2) := HE1.out.trans (hw2.mono (Nat.le_succ g)); clear hb2 hw2)
        | (go_at_call 147; refine (HB2.out.byte 10 (by rw [List.length_append]; have := hl1.out; omega)).mono ?_; rintro e w3 ⟨rfl, hb3, hw3⟩; have HB3 := Lib.hid hb3; have HC3 : Hid (Boxed w3 g 9 (.string ⟨#[]⟩)) := (hw3.block _ (Nat.lt_succ_self g)).trans HC2.out; have HE3 : Hid (Below g w w3) := HE2.out.trans (hw3.mono (Nat.le_succ g)); clear hb3 hw3))
      go_roundg (l.length - (k + 1))
      case measure => omega
      case rel => exact ⟨k + 1, hlt, rfl, by go_num, by show BX _ _ _ _; rw [HT.out]; exact HB3.out, HC3.out, HE3.out⟩
    · obtain rfl : k = l.length := by omega
      have HB' : Hid (BX wr (g + 1) (g + 1) (linesF F l)) := by have := HB.out; rw [List.take_length] at this; exact this
      go_wp2_with (go_at_call 118; refine HB'.out.string.mono ?_; rintro e w1 ⟨rfl, hb1⟩; have x1 : Boxed w1 g 9 (.string ⟨#[]⟩) := (hb1.block _ (Nat.lt_succ_self g)).trans HC.out; have f1 := x1.frozen; have c1 := x1.cell; have HX1 := Lib.hid x1; have HE1 : Hid (Below g w w1) := HE.out.trans (hb1.mono (Nat.le_succ g)); clear hb1 x1)
      have xs : Boxed (w1.setCell ⟨g, 0, none⟩ (.string (str (linesF F l)))) g 9 (.string (str (linesF F l))) := HX1.out.set _
      have cs := xs.cell
      have HR : (results Tryz.f58 #[.slice a l.length c, .func (.func 59) #[] #[], undef, undef,
          .pointer (some ⟨g, 0, none⟩), .pointer (some ⟨g + 1, 0, none⟩), undef, u7,
          .func (.func 59) #[] #[], .bool false,
          .func (.func 148) #[] #[.pointer (some ⟨g, 0, none⟩)], .slice a l.length c,
          .int .i64 l.length, .int .i64 l.length, .bool false, u15, u16, u17, u18, u19,
          u20, u21, u22, .string (str (linesF F l))]).run Tryz.prog (w1.setCell ⟨g, 0, none⟩ (.string (str (linesF F l)))) = .ok (.string (str (linesF F l))) (w1.setCell ⟨g, 0, none⟩ (.string (str (linesF F l)))) := by
        simp [results, Tryz.results58, go_sem, cs]
      refine leaves_cons (f := 148) (args := #[.pointer (some ⟨g, 0, none⟩)]) (by simp) (by simp [go_sem]) ?_
      refine (idleLnB _ _).mono ?_
      rintro e u' w'' ⟨rfl, rfl, rfl⟩
      exact ⟨_, HR, rfl, by rw [HG.out]; exact HE1.out.setCell (p := ⟨g, 0, none⟩) (Nat.le_refl _) _⟩
theorem linesNil (v : Value) (w : World) : Calls Tryz.prog 58 #[v, .nilFunc] w fun e w' => e = .returned (.string ⟨#[]⟩) ∧ Below w.heap.size w w' := by
  have hne : ∀ W, (binOp .eql 129 .nilFunc .nilFunc).run Tryz.prog W = .ok (.bool true) W := fun W => by kernel_rfl
  go_enter_defers Tryz.func58, Tryz.ntmps58
  go_wp2
  have x0 := (Boxed.new w 9 (.string ⟨#[]⟩)).cell
  refine ⟨_, by simp [results, Tryz.results58, go_sem, x0], rfl, (Below.refl _ _).alloc (Nat.le_refl _) _⟩
end Go.Proofs.YtgmneapgihakgaaGreatDoor
