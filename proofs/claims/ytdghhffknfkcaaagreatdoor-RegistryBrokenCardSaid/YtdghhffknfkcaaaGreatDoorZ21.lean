/- RegistryBroken: for every text the law answers true; the listed tables are tied to the text of the program. No condition of its own. -/
import Derived.Test.YtdghhffknfkcaaaGreatDoorZ20
import Derived.Test.YtdghhffknfkcaaaGreatDoorCards
import Derived.Test.YtdghhffknfkcaaaGreatDoorTie
import Derived.WalkKit
import Derived.ProofKit
import Derived.OpenShut
import Derived.ShutString
import Derived.ChangeOld
import Derived.Below
import Derived.Carry
import Derived.HandedShaped
import Derived.Lay
import Derived.LaidOnce
import Derived.SevenTiedAt
import Derived.MakeChecks
import Derived.Shelf.Vars
set_option maxRecDepth 100000
set_option maxHeartbeats 4000000
set_option linter.unusedVariables false
/- What the calls tell of broken bytes. -/
namespace Go.Proofs.YtdghhffknfkcaaaGreatDoor
open Go.RowKit Go.Sort Go.Maps
open Tx (Rise At Ord above)
theorem kB_lt (B : Txt) : kB B < 18446744073709551616 := by
  unfold kB
  exact Nat.lt_of_lt_of_le (Oc.val_lt _) (Nat.le_trans (Nat.pow_le_pow_right (by omega) (tk_size _ _ 8)) (by decide))
/-- What the bytes tell as a queue: its error. -/
def qE (B : Txt) : Int := (readG zQ (getQ (str [97])) (str B)).2
def qQ (B : Txt) : Qu := if qE B = 0 then (readG zQ (getQ (str [97])) (str B)).1 else zQ0
theorem findB {ks : List Txt} {f : Txt → Txt} {B : Txt} (hm : kqa ∈ ks) (hf : f kqa = B) : findOut ks f [97] = (qQ B, decide (qE B = 0), qE B) := by
  have hl : (kQ [97]).length ≤ 255 := by decide
  have hv : shV ks f (kQ [97]) = B := by
    unfold shV
    rw [if_pos (show kQ [97] ∈ ks from hm)]
    exact hf
  unfold findOut
  rw [if_pos hl, decide_eq_true (show kQ [97] ∈ ks from hm), hv]
  unfold fRes qQ
  rw [if_neg (by decide)]
  unfold qE
  by_cases h : (readG zQ (getQ (str [97])) (str B)).2 = 0
  · rw [if_neg (by simpa using h), if_pos h, h]; rfl
  · rw [if_pos h, if_neg h, decide_eq_false h]
theorem fiE_q (e : Int) : fiE (decide (e = 0)) e = e := by
  unfold fiE
  by_cases h : e = 0
  · subst h; rfl
  · rw [if_neg (fun hh => h hh.1)]
theorem cntB {ks : List Txt} {f : Txt → Txt} {B : Txt} (hm : kca ∈ ks) (hf : f kca = B) : (cntOut ks f [97]).2.2 = (readG 0 getU (str B)).2 ∧ ((readG 0 getU (str B)).2 = 0 → (cntOut ks f [97]).1 = kB B) ∧ ((readG 0 getU (str B)).2 ≠ 0 → (cntOut ks f [97]).1 = 0) := by
  have hv : shV ks f (kC [97]) = B := by
    unfold shV
    rw [if_pos (show kC [97] ∈ ks from hm)]
    exact hf
  unfold cntOut
  rw [decide_eq_true (show kC [97] ∈ ks from hm), hv]
  unfold uRes
  rw [if_neg (by decide)]
  by_cases h : (readG 0 getU (str B)).2 = 0
  · rw [if_neg (by simpa using h)]
    exact ⟨h.symm, fun _ => (readU_math B).2 h, fun hn => absurd h hn⟩
  · rw [if_pos h]
    exact ⟨rfl, fun h0 => absurd h0 h, fun _ => rfl⟩
/-- What Next says of the bytes. -/
def NextSays (B : Txt) (n : Nat) (ev : Int) : Prop := (ev = 0 ↔ wholeB B = true ∧ kB B < 18446744073709551615) ∧ (ev = 0 → n = kB B + 1)
theorem ShW.more {N : Nat} {M : Nat → Prop} {w : World} {p : Nat} {ks : List Txt} {f : Txt → Txt} (h : ShW N M w p ks f) : ShW (N + 1) M w p ks f := by
  obtain ⟨⟨sp, mb, B, n, v, h1, h2, h3, h4, h5, h6⟩, hk⟩ := h
  exact ⟨⟨sp, mb, B, n, v, h1, h2, by omega, by omega, h5, h6⟩, hk⟩
theorem nextB {N : Nat} {M : Nat → Prop} {w : World} {p : Nat} {ks : List Txt} {f : Txt → Txt} {B : Txt} (h : ShW N M w p ks f) (hN : N ≤ 80000) (m : Int) (hm : w.cell? ⟨0, 0, none⟩ = some (.int .i64 m)) (hmem : kca ∈ ks) (hf : f kca = B) :
    Calls Tryz.prog 18 #[.iface 25 (.pointer (some ⟨p, 0, none⟩)), .string ⟨#[97]⟩] w fun e w' => ∃ (n : Nat) (ev : Int) (M' : Nat → Prop) (ks' : List Txt) (f' : Txt → Txt), e = .returned (.tuple #[.int .u64 n, .int .i64 ev]) ∧ ShW (N + 1) M' w' p ks' f' ∧ (∀ y, y ∈ ks' ↔ y ∈ ks) ∧ f' kqa = f kqa ∧ Went M M' w w' ∧ NextSays B n ev := by
  obtain ⟨c1, c2, c3⟩ := cntB hmem hf
  obtain ⟨r1, r2⟩ := readU_math B
  have hlt : (cntOut ks f [97]).1 < 18446744073709551616 := by
    by_cases h0 : (readG 0 getU (str B)).2 = 0
    · rw [c2 h0]; exact kB_lt B
    · rw [c3 h0]; omega
  refine (next_any h hN [97] (by decide) m hm (by decide) hlt).mono ?_
  rintro e w' (⟨he, rfl, hb⟩ | ⟨he, hc, rfl, hb⟩ | ⟨he, hc, rfl, M', ks', ha, hs, hw⟩)
  · refine ⟨0, _, M, ks, f, rfl, h.more.below hb, fun _ => Iff.rfl, rfl, ⟨fun _ h => .inl h, Stays.below hb⟩, ⟨⟨fun h0 => absurd h0 he, fun hh => ?_⟩, fun h0 => absurd h0 he⟩⟩
    rw [c1] at he
    exact absurd (r1.2 hh.1) he
  · rw [c1] at he
    refine ⟨0, _, M, ks, f, rfl, h.more.below hb, fun _ => Iff.rfl, rfl, ⟨fun _ h => .inl h, Stays.below hb⟩, ⟨⟨fun h0 => (by cases h0), fun hh => ?_⟩, fun h0 => (by cases h0)⟩⟩
    rw [c2 he] at hc
    omega
  · rw [c1] at he
    rw [c2 he] at hc hs ⊢
    refine ⟨_, _, M', ks', _, rfl, hs, fun y => ?_, ?_, hw, ⟨⟨fun _ => ⟨r1.1 he, hc⟩, fun _ => rfl⟩, fun _ => rfl⟩⟩
    · refine ⟨fun hy => ?_, fun hy => (ha.2.1 y).2 (.inr hy)⟩
      rcases (ha.2.1 y).1 hy with e | hy
      · rw [e]; exact hmem
      · exact hy
    · unfold putF
      rw [if_neg (show ¬ kqa = kC [97] by decide)]
/-- The shelf of two pairs. -/
theorem newB (B : Txt) (w : World) (T : TypeId) :
    Calls Tryz.prog 8 #[.slice (some ⟨w.heap.size, 0, none⟩) 2 2] (w.alloc (.cells #[.string (str kqa), .string (str B), .string (str kca), .string (str B)] T)) fun e w' => ∃ p M ks f, e = .returned (.pointer (some ⟨p, 0, none⟩)) ∧ ShW 2 M w' p ks f ∧ (∀ y, y ∈ ks ↔ y = kca ∨ y = kqa) ∧ f kqa = B ∧ f kca = B ∧ Below w.heap.size w w' ∧ ∀ k, M k → w.heap.size ≤ k := by
  have bx := BoxL.new w #[.string (str kqa), .string (str B), .string (str kca), .string (str B)] T
  have hb : Below w.heap.size w (w.alloc (.cells #[.string (str kqa), .string (str B), .string (str kca), .string (str B)] T)) := (Below.refl _ _).alloc (Nat.le_refl _) _
  have hs : SlPr (w.alloc (.cells #[.string (str kqa), .string (str B), .string (str kca), .string (str B)] T)) w.heap.size 2 [(kqa, B), (kca, B)] := by
    refine ⟨bx.lt, fun j x hj => ?_⟩
    match j, hj with
    | 0, hj => cases hj; exact ⟨bx.cell (i := 0) rfl, bx.cell (i := 1) rfl⟩
    | 1, hj => cases hj; exact ⟨bx.cell (i := 2) rfl, bx.cell (i := 3) rfl⟩
    | (j + 2), hj => simp at hj
  refine (newN (g := w.heap.size) (c := 2) (l := [(kqa, B), (kca, B)]) (by simp) hs (fun x hx => ?_)).mono ?_
  · simp at hx
    rcases hx with rfl | rfl
    · show kqa.length ≤ 255; decide
    · show kca.length ≤ 255; decide
  · rintro e w' ⟨p, M, rfl, hw, hb2, hM⟩
    refine ⟨p, M, _, _, rfl, hw, fun y => ?_, ?_, ?_, below_step hb hb2, fun k hk => by have := hM k hk; simp at this; omega⟩
    · rw [dd_mem]; simp [or_comm]
    · show lastV [(kqa, B), (kca, B)] kqa = B
      unfold lastV
      simp
    · show lastV [(kqa, B), (kca, B)] kca = B
      unfold lastV
      simp
theorem findCall {N : Nat} {M : Nat → Prop} {w : World} {p : Nat} {ks : List Txt} {f : Txt → Txt} {B : Txt} (h : ShW N M w p ks f) (m : Int) (hm : w.cell? ⟨0, 0, none⟩ = some (.int .i64 m)) (hk : kqa ∈ ks) (hf : f kqa = B) :
    Calls Tryz.prog 11 #[.iface 25 (.pointer (some ⟨p, 0, none⟩)), .string ⟨#[97]⟩] w fun e w' => e = .returned (.tuple #[.agg #[.string (qQ B).nm, .int .u32 (qQ B).most, .int .u64 (qQ B).ttl, .int .u32 (qQ B).tries, .string (qQ B).dead], .int .i64 (qE B)]) ∧ Below w.heap.size w w' := by
  have := Find_any h [97] (by decide) m hm
  rw [findB hk hf, fiE_q] at this
  exact this
/-- Next behind a box that was made. -/
theorem nextCall {N : Nat} {M : Nat → Prop} {w : World} {p : Nat} {ks : List Txt} {f : Txt → Txt} {B : Txt} (h : ShW N M w p ks f) (m : Int) (hm : w.cell? ⟨0, 0, none⟩ = some (.int .i64 m)) (hmem : kca ∈ ks) (hf : f kca = B) (o : Obj) (hN : N ≤ 80000 := by decide) :
    Calls Tryz.prog 18 #[.iface 25 (.pointer (some ⟨p, 0, none⟩)), .string ⟨#[97]⟩] (w.alloc o) fun e w' => ∃ (n : Nat) (ev : Int) (M' : Nat → Prop) (ks' : List Txt) (f' : Txt → Txt), e = .returned (.tuple #[.int .u64 n, .int .i64 ev]) ∧ ShW (N + 1) M' w' p ks' f' ∧ (∀ y, y ∈ ks' ↔ y ∈ ks) ∧ f' kqa = f kqa ∧ Went M M' w w' ∧ NextSays B n ev := by
  have hb : Below w.heap.size w (w.alloc o) := (Below.refl _ _).alloc (Nat.le_refl _) _
  refine (nextB (h.below hb) hN m ((hb.cell (p := ⟨0, 0, none⟩) (World.block_lt_of_cell? _ _ hm)).trans hm) hmem hf).mono ?_
  rintro e w' ⟨n, ev, M', ks', f', h1, h2, h3, h4, h5, h6⟩
  exact ⟨n, ev, M', ks', f', h1, h2, h3, h4, h5.pre hb, h6⟩
end Go.Proofs.YtdghhffknfkcaaaGreatDoor
/- The law's range over the queues of broken bytes. -/
namespace Go.Proofs.YtdghhffknfkcaaaGreatDoor
open Go.RowKit Go.Sort Go.Maps
open Tx (Rise At Ord above)
theorem below_any {w w7 W : World} {C : Nat → Prop} (hb : Below w.heap.size w w7) (hs : Stays C w7 W) (hC : ∀ k, k < w.heap.size → C k) : Below w.heap.size w W :=
  ⟨hs.os.trans hb.os, hs.tape.trans hb.tape, hs.output.trans hb.output, Nat.le_trans hb.size hs.size, fun k hk => (hs.same k (hC k hk) (Nat.lt_of_lt_of_le hk hb.size)).trans (hb.block k hk)⟩
theorem below_putNew {w W : World} {D : Nat} (h : Below w.heap.size w W) (hD : w.heap.size ≤ D) (o : Obj) : Below w.heap.size w (W.putObj D o) :=
  ⟨h.os, h.tape, h.output, by simpa using h.size, fun k hk => (World.putObj_heap_other (by omega)).trans (h.block k hk)⟩
theorem expose {n : Nat} {c : Code} {Q : Exit → Act → World → Prop} {a : Act} {w : World} (h : ∀ a0, a = a0 → c.wpIn WF n Tryz.prog Q a0 w) : c.wpIn WF n Tryz.prog Q a w := h a rfl
def lastE (pre : List (Qu × Int)) : Int := (pre.getLast?.map (·.2)).getD 0
theorem lastE_snoc (pre : List (Qu × Int)) (x : Qu × Int) : lastE (pre ++ [x]) = x.2 := by unfold lastE; simp
/-- What the law's rounds keep. -/
structure BkI (w7 : World) (gb : Nat) (pre : List (Qu × Int)) (M : Nat → Prop) (A : World) : Prop where
  own : ∀ k, M k ↔ k = gb
  b : Boxed A gb 43 (.int .i64 (lastE pre))
  same : ∀ k, k < w7.heap.size → k ≠ gb → A.heap[k]? = w7.heap[k]?
  size : w7.heap.size ≤ A.heap.size
theorem BkI.stays {w7 : World} {gb : Nat} {pre : List (Qu × Int)} {M : Nat → Prop} {A B : World} (h : BkI w7 gb pre M A) (st : Stays (fun k => M k ∨ k < w7.heap.size) A B) : BkI w7 gb pre M B :=
  ⟨h.own, (st.same gb (.inl ((h.own gb).2 rfl)) h.b.lt).trans h.b, fun k h1 h2 => (st.same k (.inr h1) (Nat.lt_of_lt_of_le h1 h.size)).trans (h.same k h1 h2), Nat.le_trans h.size st.size⟩
theorem BkI.next {w7 : World} {gb : Nat} {pre : List (Qu × Int)} {M : Nat → Prop} {A : World} {x : Qu × Int} (h : BkI w7 gb pre M A) : Went M M A (A.setCell ⟨gb, 0, none⟩ (.int .i64 x.2)) ∧ BkI w7 gb (pre ++ [x]) M (A.setCell ⟨gb, 0, none⟩ (.int .i64 x.2)) := by
  have hs : Stays (fun k => k ≠ gb) A (A.setCell ⟨gb, 0, none⟩ (.int .i64 x.2)) := Stays.set _ _ _ _ (fun h => h rfl)
  refine ⟨⟨fun _ h => .inl h, hs.sub (fun k hk _ e => hk ((h.own k).2 e))⟩, ⟨h.own, ?_, fun k h1 h2 => (hs.same k h2 (Nat.lt_of_lt_of_le h1 h.size)).trans (h.same k h1 h2), Nat.le_trans h.size hs.size⟩⟩
  rw [lastE_snoc]
  exact h.b.set _
/-- What the row of queues tells. -/
def rdB (x : Txt × Txt) : Qu × Int := readG zQ (getQ (str [97])) (str x.2)
theorem rowB {ks : List Txt} {f : Txt → Txt} {B : Txt} (hr : Rise slt ks) (hk : ∀ y, y ∈ ks ↔ y = kca ∨ y = kqa) (hf : f kqa = B) : between ks f KQ UQ = [(kqa, B)] ∧ lastE (upE ⟨⟨#[]⟩, 0, 0, 0, ⟨#[]⟩⟩ ([(kqa, B)].map rdB)) = qE B := by
  have e := two_rise hr hk kca_lt
  refine ⟨by rw [e, between_a, hf], ?_⟩
  show lastE (upE _ [rdB (kqa, B)]) = qE B
  unfold upE
  by_cases h : (rdB (kqa, B)).2 = 0
  · rw [if_pos h]
    show (rdB (kqa, B)).2 = qE B
    rfl
  · rw [if_neg h]
    rfl
def dE (B : Txt) : Int := if qE B = 0 then 22 else qE B
theorem declareB {N : Nat} {M : Nat → Prop} {w : World} {p : Nat} {ks : List Txt} {f : Txt → Txt} {B : Txt} (h : ShW N M w p ks f) (hN : N ≤ 80000) (m : Int) (hm : w.cell? ⟨0, 0, none⟩ = some (.int .i64 m)) (hk : kqa ∈ ks) (hf : f kqa = B) :
    Calls Tryz.prog 15 #[.iface 25 (.pointer (some ⟨p, 0, none⟩)), .agg #[.string ⟨#[97]⟩, .int .u32 0, .int .u64 0, .int .u32 0, .string ⟨#[]⟩]] w fun e w' => e = .returned (.int .i64 (dE B)) ∧ Below w.heap.size w w' := by
  have := declare0 h hN [97] (by decide) m hm
  rw [findB hk hf] at this
  refine this.mono ?_
  unfold dE
  rintro e w' (⟨h1, rfl, hb⟩ | ⟨h1, h2, rfl, hb⟩ | ⟨h1, h2, _⟩)
  · rw [if_neg h1]; exact ⟨rfl, hb⟩
  · rw [if_pos h1]; exact ⟨rfl, hb⟩
  · exact absurd h1 (by simpa using h2)
theorem things_B {ks : List Txt} {f : Txt → Txt} {B : Txt} (p sp mb B0 nn a : Nat) (v : Value) (hks : ks.length ≤ 100000) (hkl : ∀ k ∈ ks, k.length ≤ maxLen) (hr : Rise slt ks) (hk : ∀ y, y ∈ ks ↔ y = kca ∨ y = kqa) (hf : f kqa = B) :
    SeqB teQ 19 108 #[.pointer (some ⟨a, 0, none⟩), .pointer (some ⟨a + 1, 0, none⟩), .pointer (some ⟨a + 1 + 1, 0, none⟩), .pointer (some ⟨a + 1 + 1 + 1, 0, none⟩)] (ThGQ p sp mb B0 nn a (a + 1) (a + 1 + 1) (a + 1 + 1 + 1) v ks f KQ UQ (fun _ => True)) (upE ⟨⟨#[]⟩, 0, 0, 0, ⟨#[]⟩⟩ ([(kqa, B)].map rdB)) := by
  have hb := (rowB hr hk hf).1
  have := things1Q 19 (by decide) p sp mb B0 nn a (a + 1) (a + 1 + 1) (a + 1 + 1 + 1) v ks f KQ UQ hks hkl rdB (fun _ => True) (fun _ _ _ _ => trivial) (fun x hx A _ => by
    rw [hb] at hx
    obtain rfl : x = (kqa, B) := by simpa using hx
    exact queue_any [97] B (by decide) A)
  rw [hb] at this
  exact this
end Go.Proofs.YtdghhffknfkcaaaGreatDoor
/- The law of broken bytes. -/
namespace Go.Proofs.YtdghhffknfkcaaaGreatDoor
open Go.RowKit Go.Sort Go.Maps
open Tx (Rise At Ord above)
attribute [local go_sem] Oper.semAt_some
set_option maxHeartbeats 8000000 in
theorem broken_walk (B : Txt) (w : World) (m : Int) (hm : w.cell? ⟨0, 0, none⟩ = some (.int .i64 m)) :
    Calls Tryz.prog 5 #[.string (str B)] w fun e w' => e = .returned (.bool true) ∧ Below w.heap.size w w' := by
  have h00 := World.block_lt_of_cell? _ _ hm
  have hsz : (str B).size = B.length := rfl
  have HM : Hid (∀ W, Below w.heap.size w W → W.cell? ⟨0, 0, none⟩ = some (.int .i64 m)) := fun W hW => (hW.cell (p := ⟨0, 0, none⟩) h00).trans hm
  have HA := Lib.hid (rgAwake m w hm)
  have HKQ : Hid (∀ W, Below w.heap.size w W → Calls Tryz.prog 16 #[.string ⟨#[97]⟩] W fun e w' => e = .returned (.tuple #[.string (str kqa), .int .i64 0]) ∧ Below W.heap.size W w') := fun W hW => skeyQ_any [97] (by decide) m W (HM.out W hW)
  have HKC : Hid (∀ W, Below w.heap.size w W → Calls Tryz.prog 17 #[.string ⟨#[97]⟩] W fun e w' => e = .returned (.tuple #[.string (str kca), .int .i64 0]) ∧ Below W.heap.size W w') := fun W hW => skeyC_any [97] (by decide) m W (HM.out W hW)
  have hmx := mixed0
  clear hm h00
  by_cases h2 : (B.length : Int) > 200
  · refine callsIn_wide.1 (callsIn_of_wp_marks (n := 20) (F := WF) Tryz.func5 rfl trivial ?_ rfl)
    simp only [Tryz.ntmps5, List.size_toArray, List.length_cons, List.length_nil, Nat.reduceAdd, Nat.reduceSub, Array.replicate_succ, Array.replicate_zero, List.push_toArray, List.append_toArray, List.nil_append, List.cons_append]
    refine (wpIn_wide (n := 20)).2 ?_
    obtain ⟨Q, hQ⟩ : ∃ Q, Q = bodyPostM WF 20 Tryz.prog Tryz.f5 (fun e w' => e = .returned (.bool true) ∧ Below w.heap.size w w') := ⟨_, rfl⟩
    rw [← hQ]
    have HQ := Lib.hid hQ
    clear hQ
    go_wp2_with (go_at_call 6; refine HA.out.mono ?_; rintro e1 w1 ⟨rfl, hb1⟩)
    rw [HQ.out]
    exact ⟨_, results_tmp rfl _ _ _, rfl, hb1⟩
  · refine callsIn_wide.1 (callsIn_of_wp_marks (n := 20) (F := WF) Tryz.func5 rfl trivial ?_ rfl)
    simp only [Tryz.ntmps5, List.size_toArray, List.length_cons, List.length_nil, Nat.reduceAdd, Nat.reduceSub, Array.replicate_succ, Array.replicate_zero, List.push_toArray, List.append_toArray, List.nil_append, List.cons_append]
    refine (wpIn_wide (n := 20)).2 ?_
    obtain ⟨Q, hQ⟩ : ∃ Q, Q = bodyPostM WF 20 Tryz.prog Tryz.f5 (fun e w' => e = .returned (.bool true) ∧ Below w.heap.size w w') := ⟨_, rfl⟩
    rw [← hQ]
    have HQ := Lib.hid hQ
    have HNB := Lib.hid (fun W T => newB B W T)
    clear hQ
    go_upto_region 10 with (first
      | (go_at_call 6; refine HA.out.mono ?_; rintro e1 w1 ⟨rfl, hb1⟩)
      | (go_at_call 16; refine (HKQ.out _ hb1).mono ?_; rintro e2 w2 ⟨rfl, hb2⟩)
      | (go_at_call 17; refine (HKC.out _ (below_step hb1 hb2)).mono ?_; rintro e3 w3 ⟨rfl, hb3⟩)
      | (go_at_call 8; refine (HNB.out _ _).mono ?_; rintro e4 w4 ⟨p, M, ks, f, rfl, hs, hks, hfq, hfc, hb4, hM⟩; have HS4 := Lib.hid hs; have HKS := Lib.hid hks; have HFQ := Lib.hid hfq; have HFC := Lib.hid hfc; have HB4 : Hid (Below w.heap.size w w4) := below_step (below_step (below_step hb1 hb2) hb3) hb4; have HMM : Hid (∀ k, M k → w.heap.size ≤ k) := (fun k hk => Nat.le_trans (below_step (below_step hb1 hb2) hb3).size (hM k hk)); clear hs hks hfq hfc hM)
      | (go_at_call 11; refine (findCall HS4.out m (HM.out _ HB4.out) ((HKS.out _).2 (.inr rfl)) HFQ.out).mono ?_; rintro e5 w5 ⟨rfl, hb5⟩; have HB5 : Hid (Below w.heap.size w w5) := below_step HB4.out hb5)
      | (go_at_call 18; refine (nextCall (B := B) (HS4.out.below hb5) m (HM.out w5 HB5.out) ((HKS.out _).2 (.inl rfl)) HFC.out _).mono ?_; rintro e6 w6 ⟨n, ev, M6, ks6, f6, rfl, hs6, hk6, hf6, hw6, hn6⟩; have HS6 := Lib.hid hs6; have HK6 : Hid (∀ y, y ∈ ks6 ↔ y = kca ∨ y = kqa) := (fun y => (hk6 y).trans (HKS.out y)); have HF6 : Hid (f6 kqa = B) := hf6.trans HFQ.out; have HN6 := Lib.hid hn6; have HB6 : Hid (Below w.heap.size w w6) := below_went HB5.out hw6 HMM.out; clear hs6 hk6 hf6 hw6 hn6))
    have HQS := Lib.hid (fun W hb => qs_any p m W (HM.out W hb))
    have HDC := Lib.hid (fun (N : Nat) M W ks f h hN hb hk hf => declareB (N := N) (M := M) (w := W) (p := p) (ks := ks) (f := f) (B := B) h hN m (HM.out W hb) hk hf)
    have hcases : (¬ (B.length : Int) = 9 ∧ wholeB B = false) ∨ ∃ c t, B = c :: t ∧ (B.length : Int) = 9 ∧ (((c.toNat : Int) == 1) = wholeB B) := by
      by_cases h9 : B.length = 9
      · refine .inr ?_
        cases B with
        | nil => cases h9
        | cons c t =>
          refine ⟨c, t, rfl, by omega, ?_⟩
          unfold wholeB
          rw [h9]
          by_cases hc : c = 1
          · subst hc; rfl
          · have : ¬ c.toNat = 1 := fun h => hc (UInt8.toNat_inj.1 h)
            simp [hc]
            omega
      · refine .inl ⟨by omega, ?_⟩
        unfold wholeB
        simp [h9]
    clear HA HKQ HKC HNB
    rcases hcases with ⟨h9, hwf⟩ | ⟨c, t, hB, h9, hwt⟩
    · have HWF := Lib.hid hwf
      clear hwf
      go_wp2_with (go_at_call 19; refine (HQS.out _ (HB6.out.trans (((Below.refl _ _).alloc (Nat.le_refl _) _).mono HB6.out.size))).mono ?_; rintro e7 w7 ⟨a, rfl, ha, hqb, hb7⟩; have HAq := Lib.hid ha; have HQB := Lib.hid hqb; have HB7 := Lib.hid hb7; clear ha hqb hb7)
      have hz7 : w6.heap.size + 1 ≤ w7.heap.size := by have := HB7.out.size; simpa using this
      have bA6 := (Below.refl w6.heap.size w6).alloc (Nat.le_refl _) (.cells #[.int .i64 0] 43)
      have HB67 : Hid (Below w6.heap.size w6 w7) := below_step bA6 HB7.out
      have hgb : Boxed w7 w6.heap.size 43 (.int .i64 0) := (HB7.out.block _ (Boxed.new w6 43 (.int .i64 0)).lt).trans (Boxed.new w6 43 (.int .i64 0))
      have HS7 := Lib.hid (HS6.out.below HB67.out)
      have HBw7 : Hid (Below w.heap.size w w7) := below_step HB6.out HB67.out
      obtain ⟨sp, mb, B0, nn, v, hsh, hMM, hn1, hn2, hn3, hp7⟩ := HS7.out.ex
      have HSH := Lib.hid hsh
      have HGB := Lib.hid hgb
      have hM6 : ∀ k, M6 k → k < w6.heap.size := HS6.out.lt
      have HM6 := Lib.hid hM6
      have hvb : ∀ g, v.ownBlock = some g → g < w6.heap.size := fun g hg => hM6 g ((hMM g).2 (.inr (.inr (.inr hg))))
      have hpb : p < w6.heap.size := hM6 p ((hMM p).2 (.inl rfl))
      have hspb : sp < w6.heap.size := hM6 sp ((hMM sp).2 (.inr (.inl rfl)))
      have hmbb : mb < w6.heap.size := hM6 mb ((hMM mb).2 (.inr (.inr (.inl rfl))))
      have hab : w6.heap.size + 1 ≤ a := by have := HAq.out; simpa using this
      obtain ⟨row1, row2⟩ := rowB hsh.set.rise HK6.out HF6.out
      have ROW2 := Lib.hid row2
      have HTB := Lib.hid (things_B p sp mb B0 nn a v (by omega) (fun k hk => by have := HS7.out.kl k hk; unfold maxLen; omega) hsh.set.rise HK6.out HF6.out)
      clear hgb bA6 hsh hMM row1 row2
      refine (wpIn_wide (n := 20)).1 ?_
      refine expose (fun a0 ha0 => ?_)
      refine rangeB (n := 20) (by decide) (gf := 108) (lb := #[.pointer (some ⟨a, 0, none⟩), .pointer (some ⟨a + 1, 0, none⟩), .pointer (some ⟨a + 1 + 1, 0, none⟩), .pointer (some ⟨a + 1 + 1 + 1, 0, none⟩)]) (by rw [← ha0]; rfl) (fun args w => by kernel_rfl) HTB.out (fun x => rfl)
        (BkI w7 w6.heap.size) (fun _ _ _ => False) (fun k => k = w6.heap.size) (fun k hk => by omega) (fun pre M A B h hs => h.stays hs) (fun _ _ _ _ h _ => h) (fun pre M A h k hk => by have := (h.own k).1 hk; have := h.size; omega)
        (fun pre M A h => ⟨HSH.out.stays (h.same p (by omega) (by omega)) (h.same sp (by omega) (by omega)) (h.same mb (by omega) (by omega)) (fun g hg => h.same g (by have := hvb g hg; omega) (by have := hvb g hg; omega)), (cell_same (h.same a (World.block_lt_of_cell? _ _ HQB.out.c1) (by omega)) 0).trans HQB.out.c1, (cell_same (h.same (a + 1) (World.block_lt_of_cell? _ _ HQB.out.c2) (by omega)) 0).trans HQB.out.c2, (cell_same (h.same (a + 1 + 1) (World.block_lt_of_cell? _ _ HQB.out.c3) (by omega)) 0).trans HQB.out.c3, (cell_same (h.same (a + 1 + 1 + 1) (World.block_lt_of_cell? _ _ HQB.out.c4) (by omega)) 0).trans HQB.out.c4, trivial⟩)
        ⟨fun _ => Iff.rfl, HGB.out, fun _ _ _ => rfl, Nat.le_refl _⟩
        (fun x a' _ => a' = { tmps := ((a0.tmps.setIfInBounds 63 (aggQ x.1)).setIfInBounds 64 (.int .i64 x.2)).setIfInBounds 15 (.int .i64 x.2), defers := [] }) (fun x a' A B h _ => h) ?assign ?body ?done ?stop
      case assign =>
        intro l x W K hsz' hK
        have HK := Lib.hid hK
        clear hK
        subst ha0
        unfold aggQ at HK
        unfold teQ aggQ
        gi_wp2
        exact HK.out _ _ (Below.refl _ _) rfl
      case body =>
        rintro l pre x M a' A hI hax hsz' hpre
        have c0 := hI.b.cell
        have f0 := hI.b.frozen
        have HI := Lib.hid hI
        clear hI
        subst ha0
        subst hax
        unfold aggQ
        gi_wp2
        exact ⟨M, HI.out.next⟩
      case stop => intro D pre M W' _ _ h; exact h.elim
      case done =>
        intro D M W' hD hMD hI hst hgr hK
        have HB' : Hid (Below w.heap.size w W') := below_any HBw7.out hst (fun k hk e => by have := HB6.out.size; omega)
        have HS' : Hid (ShW 3 M6 W' p ks6 f6) := HS7.out.stays hst (fun k hk e => by have := HM6.out k hk; omega)
        have hbx := hI.b
        rw [ROW2.out] at hbx
        have HBX := Lib.hid hbx
        have HK := Lib.hid hK
        have HDC1 := Lib.hid (HDC.out 3 M6 W' ks6 f6 HS'.out (by decide) HB'.out ((HK6.out _).2 (.inr rfl)) HF6.out)
        have HDL : Hid (D < W'.heap.size ∧ w.heap.size ≤ D) := ⟨(Array.getElem?_eq_some_iff.1 hK).1, by have := HBw7.out.size; omega⟩
        have HWQ := Lib.hid (readQ_math B (str [97]))
        clear hI hst hgr hK hbx
        subst ha0
        by_cases hq : qE B = 0
        · have hd : dE B = 22 := if_pos hq
          rw [hd] at HDC1
          rw [hq] at HBX
          have hev : (ev != 0) = true := by
            have h1 : ¬ wholeB B = true := fun h => HWQ.out h hq
            have h2 : ¬ ev = 0 := fun h => h1 (HN6.out.1.1 h).1
            simpa using h2
          have hwn : wholeB B = false := by
            cases hw : wholeB B with
            | false => rfl
            | true => exact absurd hq (HWQ.out hw)
          rw [hq]
          try rw [hwn]
          go_wp2_with (go_at_call 15; refine HDC1.out.mono ?_; rintro e8 w8 ⟨rfl, hb8⟩; have g8 := Boxed.cell ((hb8.block _ HBX.out.lt).trans HBX.out); have HB8 := Lib.hid hb8; clear hb8)
          rw [HQ.out]
          have hK9 : w8.heap[D]? = some (.deferred (some [])) := (HB8.out.block D HDL.out.1).trans HK.out
          refine ⟨by simp, .inl ⟨_, _, rfl, run_takeDeferred hK9, ?_⟩⟩
          exact ⟨_, results_tmp rfl _ _ _, rfl, below_putNew (below_step HB'.out HB8.out) HDL.out.2 _⟩
        · have hd : dE B = qE B := if_neg hq
          rw [hd] at HDC1
          have hqb : (qE B == 0) = false := by simpa using hq
          have hqs : (qE B == qE B) = true := by simp
          have HOV := Lib.hid (fun W => over_any (str B) W)
          have HTK := Lib.hid (fun b W (h : Rd W b (str B) 0) => take_any b (str B) 0 1 W h)
          have HEI := Lib.hid (fun b W (h : Rd W b (tk (str B) 0 1).2.1 (tk (str B) 0 1).2.2) => eight_rd b (tk (str B) 0 1).2.1 (tk (str B) 0 1).2.2 W h)
          have HKB : Hid (Oc.val (tk (tk (str B) 0 1).2.1 (tk (str B) 0 1).2.2 8).1.data.toList = kB B) := rfl
          rw [HKB.out] at HEI
          have hq0 := hq
          clear hq
          go_upto_region 21 with (first
            | (go_at_call 15; refine HDC1.out.mono ?_; rintro e8 w8 ⟨rfl, hb8⟩; have HB8 := Lib.hid hb8; clear hb8)
            | (go_at_call 20; refine (HOV.out _).mono ?_; rintro e9 w9 ⟨rfl, hr9, hb9⟩; have HB9 := Lib.hid (below_step HB8.out hb9); have HR9 := Lib.hid hr9; clear hb9 hr9)
            | (go_at_call 21; refine (HTK.out _ _ HR9.out).mono ?_; rintro e10 w10 ⟨rfl, hr10, hu10⟩; have HR10 := Lib.hid hr10; have HU10 := Lib.hid hu10; clear hr10 hu10)
            | (go_at_call 22; refine (HEI.out _ _ HR10.out).mono ?_; rintro e11 w11 ⟨rfl, hr11, hu11⟩; have HU11 := Lib.hid hu11; clear hr11 hu11))
          have hb8z : W'.heap.size ≤ w8.heap.size := HB8.out.size
          have HB11 : Hid (Below W'.heap.size W' w11) := (HB9.out.trans (HU10.out.below hb8z)).trans (HU11.out.below hb8z)
          have g11 := (HB11.out.cell (p := ⟨w6.heap.size, 0, none⟩) HBX.out.lt).trans HBX.out.cell
          have hK9 : w11.heap[D]? = some (.deferred (some [])) := (HB11.out.block D HDL.out.1).trans HK.out
          have HK9 := Lib.hid hK9
          have hkw : IntKind.u64.wrap ((kB B : Int) + 1) = (kB B : Int) + 1 ∨ ¬ (kB B : Int) < 18446744073709551615 := by
            by_cases h : (kB B : Int) < 18446744073709551615
            · exact .inl (by simp [IntKind.wrap, IntKind.bits, IntKind.signed]; omega)
            · exact .inr h
          have HKW := Lib.hid hkw
          obtain ⟨n1, n2⟩ := HN6.out
          clear hK9 hkw
          have hev : (ev != 0) = true := by
            have : ¬ ev = 0 := fun h => by have := (n1.1 h).1; rw [HWF.out] at this; cases this
            simpa using this
          have hev2 : (ev == 0) = false := by simpa using hev
          clear n1 n2
          have fin : True := trivial
          go_wp2
          rw [HQ.out]
          refine ⟨by simp, .inl ⟨_, _, rfl, run_takeDeferred HK9.out, ?_⟩⟩
          exact ⟨_, results_tmp rfl _ _ _, rfl, below_putNew (below_step HB'.out HB11.out) HDL.out.2 _⟩
    · have hidx := str_at B 0 c (by rw [hB]; rfl)
      have HBt := Lib.hid hB
      clear hB
      go_wp2_with (go_at_call 19; refine (HQS.out _ (HB6.out.trans (((Below.refl _ _).alloc (Nat.le_refl _) _).mono HB6.out.size))).mono ?_; rintro e7 w7 ⟨a, rfl, ha, hqb, hb7⟩; have HAq := Lib.hid ha; have HQB := Lib.hid hqb; have HB7 := Lib.hid hb7; clear ha hqb hb7)
      have hz7 : w6.heap.size + 1 ≤ w7.heap.size := by have := HB7.out.size; simpa using this
      have bA6 := (Below.refl w6.heap.size w6).alloc (Nat.le_refl _) (.cells #[.int .i64 0] 43)
      have HB67 : Hid (Below w6.heap.size w6 w7) := below_step bA6 HB7.out
      have hgb : Boxed w7 w6.heap.size 43 (.int .i64 0) := (HB7.out.block _ (Boxed.new w6 43 (.int .i64 0)).lt).trans (Boxed.new w6 43 (.int .i64 0))
      have HS7 := Lib.hid (HS6.out.below HB67.out)
      have HBw7 : Hid (Below w.heap.size w w7) := below_step HB6.out HB67.out
      obtain ⟨sp, mb, B0, nn, v, hsh, hMM, hn1, hn2, hn3, hp7⟩ := HS7.out.ex
      have HSH := Lib.hid hsh
      have HGB := Lib.hid hgb
      have hM6 : ∀ k, M6 k → k < w6.heap.size := HS6.out.lt
      have HM6 := Lib.hid hM6
      have hvb : ∀ g, v.ownBlock = some g → g < w6.heap.size := fun g hg => hM6 g ((hMM g).2 (.inr (.inr (.inr hg))))
      have hpb : p < w6.heap.size := hM6 p ((hMM p).2 (.inl rfl))
      have hspb : sp < w6.heap.size := hM6 sp ((hMM sp).2 (.inr (.inl rfl)))
      have hmbb : mb < w6.heap.size := hM6 mb ((hMM mb).2 (.inr (.inr (.inl rfl))))
      have hab : w6.heap.size + 1 ≤ a := by have := HAq.out; simpa using this
      obtain ⟨row1, row2⟩ := rowB hsh.set.rise HK6.out HF6.out
      have ROW2 := Lib.hid row2
      have HTB := Lib.hid (things_B p sp mb B0 nn a v (by omega) (fun k hk => by have := HS7.out.kl k hk; unfold maxLen; omega) hsh.set.rise HK6.out HF6.out)
      clear hgb bA6 hsh hMM row1 row2
      refine (wpIn_wide (n := 20)).1 ?_
      refine expose (fun a0 ha0 => ?_)
      refine rangeB (n := 20) (by decide) (gf := 108) (lb := #[.pointer (some ⟨a, 0, none⟩), .pointer (some ⟨a + 1, 0, none⟩), .pointer (some ⟨a + 1 + 1, 0, none⟩), .pointer (some ⟨a + 1 + 1 + 1, 0, none⟩)]) (by rw [← ha0]; rfl) (fun args w => by kernel_rfl) HTB.out (fun x => rfl)
        (BkI w7 w6.heap.size) (fun _ _ _ => False) (fun k => k = w6.heap.size) (fun k hk => by omega) (fun pre M A B h hs => h.stays hs) (fun _ _ _ _ h _ => h) (fun pre M A h k hk => by have := (h.own k).1 hk; have := h.size; omega)
        (fun pre M A h => ⟨HSH.out.stays (h.same p (by omega) (by omega)) (h.same sp (by omega) (by omega)) (h.same mb (by omega) (by omega)) (fun g hg => h.same g (by have := hvb g hg; omega) (by have := hvb g hg; omega)), (cell_same (h.same a (World.block_lt_of_cell? _ _ HQB.out.c1) (by omega)) 0).trans HQB.out.c1, (cell_same (h.same (a + 1) (World.block_lt_of_cell? _ _ HQB.out.c2) (by omega)) 0).trans HQB.out.c2, (cell_same (h.same (a + 1 + 1) (World.block_lt_of_cell? _ _ HQB.out.c3) (by omega)) 0).trans HQB.out.c3, (cell_same (h.same (a + 1 + 1 + 1) (World.block_lt_of_cell? _ _ HQB.out.c4) (by omega)) 0).trans HQB.out.c4, trivial⟩)
        ⟨fun _ => Iff.rfl, HGB.out, fun _ _ _ => rfl, Nat.le_refl _⟩
        (fun x a' _ => a' = { tmps := ((a0.tmps.setIfInBounds 63 (aggQ x.1)).setIfInBounds 64 (.int .i64 x.2)).setIfInBounds 15 (.int .i64 x.2), defers := [] }) (fun x a' A B h _ => h) ?assign ?body ?done ?stop
      case assign =>
        intro l x W K hsz' hK
        have HK := Lib.hid hK
        clear hK
        subst ha0
        unfold aggQ at HK
        unfold teQ aggQ
        gi_wp2
        exact HK.out _ _ (Below.refl _ _) rfl
      case body =>
        rintro l pre x M a' A hI hax hsz' hpre
        have c0 := hI.b.cell
        have f0 := hI.b.frozen
        have HI := Lib.hid hI
        clear hI
        subst ha0
        subst hax
        unfold aggQ
        gi_wp2
        exact ⟨M, HI.out.next⟩
      case stop => intro D pre M W' _ _ h; exact h.elim
      case done =>
        intro D M W' hD hMD hI hst hgr hK
        have HB' : Hid (Below w.heap.size w W') := below_any HBw7.out hst (fun k hk e => by have := HB6.out.size; omega)
        have HS' : Hid (ShW 3 M6 W' p ks6 f6) := HS7.out.stays hst (fun k hk e => by have := HM6.out k hk; omega)
        have hbx := hI.b
        rw [ROW2.out] at hbx
        have HBX := Lib.hid hbx
        have HK := Lib.hid hK
        have HDC1 := Lib.hid (HDC.out 3 M6 W' ks6 f6 HS'.out (by decide) HB'.out ((HK6.out _).2 (.inr rfl)) HF6.out)
        have HDL : Hid (D < W'.heap.size ∧ w.heap.size ≤ D) := ⟨(Array.getElem?_eq_some_iff.1 hK).1, by have := HBw7.out.size; omega⟩
        have HWQ := Lib.hid (readQ_math B (str [97]))
        clear hI hst hgr hK hbx
        subst ha0
        by_cases hq : qE B = 0
        · have hd : dE B = 22 := if_pos hq
          rw [hd] at HDC1
          rw [hq] at HBX
          have hev : (ev != 0) = true := by
            have h1 : ¬ wholeB B = true := fun h => HWQ.out h hq
            have h2 : ¬ ev = 0 := fun h => h1 (HN6.out.1.1 h).1
            simpa using h2
          have hwn : wholeB B = false := by
            cases hw : wholeB B with
            | false => rfl
            | true => exact absurd hq (HWQ.out hw)
          rw [hq]
          try rw [hwn]
          go_wp2_with (go_at_call 15; refine HDC1.out.mono ?_; rintro e8 w8 ⟨rfl, hb8⟩; have g8 := Boxed.cell ((hb8.block _ HBX.out.lt).trans HBX.out); have HB8 := Lib.hid hb8; clear hb8)
          rw [HQ.out]
          have hK9 : w8.heap[D]? = some (.deferred (some [])) := (HB8.out.block D HDL.out.1).trans HK.out
          refine ⟨by simp, .inl ⟨_, _, rfl, run_takeDeferred hK9, ?_⟩⟩
          exact ⟨_, results_tmp rfl _ _ _, rfl, below_putNew (below_step HB'.out HB8.out) HDL.out.2 _⟩
        · have hd : dE B = qE B := if_neg hq
          rw [hd] at HDC1
          have hqb : (qE B == 0) = false := by simpa using hq
          have hqs : (qE B == qE B) = true := by simp
          have HOV := Lib.hid (fun W => over_any (str B) W)
          have HTK := Lib.hid (fun b W (h : Rd W b (str B) 0) => take_any b (str B) 0 1 W h)
          have HEI := Lib.hid (fun b W (h : Rd W b (tk (str B) 0 1).2.1 (tk (str B) 0 1).2.2) => eight_rd b (tk (str B) 0 1).2.1 (tk (str B) 0 1).2.2 W h)
          have HKB : Hid (Oc.val (tk (tk (str B) 0 1).2.1 (tk (str B) 0 1).2.2 8).1.data.toList = kB B) := rfl
          rw [HKB.out] at HEI
          have hq0 := hq
          clear hq
          go_upto_region 21 with (first
            | (go_at_call 15; refine HDC1.out.mono ?_; rintro e8 w8 ⟨rfl, hb8⟩; have HB8 := Lib.hid hb8; clear hb8)
            | (go_at_call 20; refine (HOV.out _).mono ?_; rintro e9 w9 ⟨rfl, hr9, hb9⟩; have HB9 := Lib.hid (below_step HB8.out hb9); have HR9 := Lib.hid hr9; clear hb9 hr9)
            | (go_at_call 21; refine (HTK.out _ _ HR9.out).mono ?_; rintro e10 w10 ⟨rfl, hr10, hu10⟩; have HR10 := Lib.hid hr10; have HU10 := Lib.hid hu10; clear hr10 hu10)
            | (go_at_call 22; refine (HEI.out _ _ HR10.out).mono ?_; rintro e11 w11 ⟨rfl, hr11, hu11⟩; have HU11 := Lib.hid hu11; clear hr11 hu11))
          have hb8z : W'.heap.size ≤ w8.heap.size := HB8.out.size
          have HB11 : Hid (Below W'.heap.size W' w11) := (HB9.out.trans (HU10.out.below hb8z)).trans (HU11.out.below hb8z)
          have g11 := (HB11.out.cell (p := ⟨w6.heap.size, 0, none⟩) HBX.out.lt).trans HBX.out.cell
          have hK9 : w11.heap[D]? = some (.deferred (some [])) := (HB11.out.block D HDL.out.1).trans HK.out
          have HK9 := Lib.hid hK9
          have hkw : IntKind.u64.wrap ((kB B : Int) + 1) = (kB B : Int) + 1 ∨ ¬ (kB B : Int) < 18446744073709551615 := by
            by_cases h : (kB B : Int) < 18446744073709551615
            · exact .inl (by simp [IntKind.wrap, IntKind.bits, IntKind.signed]; omega)
            · exact .inr h
          have HKW := Lib.hid hkw
          obtain ⟨n1, n2⟩ := HN6.out
          clear hK9 hkw
          by_cases hev : ev = 0
          · obtain ⟨hwt1, hk1⟩ := n1.1 hev
            have hn := n2 hev
            subst hev
            subst hn
            rw [hwt1]
            have hkl : (kB B : Int) < 18446744073709551615 := by omega
            have hkw := HKW.out.resolve_right (fun h => h hkl)
            have hcast : ((kB B + 1 : Nat) : Int) = (kB B : Int) + 1 := by omega
            clear n1 n2
            have fin : True := trivial
            go_wp2
            rw [HQ.out]
            refine ⟨by simp, .inl ⟨_, _, rfl, run_takeDeferred HK9.out, ?_⟩⟩
            exact ⟨_, results_tmp rfl _ _ _, rfl, below_putNew (below_step HB'.out HB11.out) HDL.out.2 _⟩
          · have hev1 : (ev != 0) = true := by simpa using hev
            have hev2 : (ev == 0) = false := by simpa using hev
            by_cases hw : wholeB B = true
            · have hkl : ¬ (kB B : Int) < 18446744073709551615 := fun h => hev (n1.2 ⟨hw, by omega⟩)
              rw [hw]
              clear n1 n2 hev
              have fin : True := trivial
              go_wp2
              rw [HQ.out]
              refine ⟨by simp, .inl ⟨_, _, rfl, run_takeDeferred HK9.out, ?_⟩⟩
              exact ⟨_, results_tmp rfl _ _ _, rfl, below_putNew (below_step HB'.out HB11.out) HDL.out.2 _⟩
            · have hw' : wholeB B = false := by simpa using hw
              rw [hw']
              clear n1 n2 hev hw
              have fin : True := trivial
              go_wp2
              rw [HQ.out]
              refine ⟨by simp, .inl ⟨_, _, rfl, run_takeDeferred HK9.out, ?_⟩⟩
              exact ⟨_, results_tmp rfl _ _ _, rfl, below_putNew (below_step HB'.out HB11.out) HDL.out.2 _⟩
end Go.Proofs.YtdghhffknfkcaaaGreatDoor
namespace Go.Proofs.YtdghhffknfkcaaaGreatDoor.registryBroken
open Go.ChangeShapes Go.WideShapes Go.ChangeAt Go.RowKit Go.Lib Go.Shelf
open Go.ChangeMaps (open_string shut_string)
theorem own : ownKnob Tryz.prog.godebug = none := by kernel_rfl
theorem laidOut : laidOutB Tryz.prog = true := by kernel_rfl
theorem of_change_and_shaped {a : Assume} {C : Checked} {os : Os} {f : FuncId} {fn : Func} {s : ChangeSpec} {conds : List PathCond} {apart fresh handsOn again : Bool} {H : Type} {enc : TypeId × Value → H} {X : World → Array Value → Prop}
    (hX : ∀ (w w' : World) (args : Array Value), w.heap = w'.heap → X w args → X w' args)
    (own : ownKnob C.prog.godebug = none) (started : os.Started) (noInit : C.prog.inits.idxOf? f = none) (hfn : C.prog.funcs[f]? = some fn)
    (witness : ∃ (w : World) (tape : Tape) (i : Input), w.os = os ∧ (w.forCall tape i).Shaped C.prog ∧ i.vars = [] ∧ Input.okWide C.prog (w.forCall tape i) .any w.heap.size f i ∧
      ((s.pre enc C.prog fn conds apart (w.forCall tape i).memory i.args ∧ X (w.forCall tape i).memory i.args) ∧ sizedMet enc C.prog fn (OpenSpec.ofChange s) apart (w.forCall tape i).memory i.args) ∧ a.holds C.prog (lone (Frame.enter C.prog f i.args .normal) [] (w.forCall tape i)))
    (contract : ∀ (W : World) (base : Nat) (args : Array Value) (ds gs : List (DataW H)) (before : List MemPlace),
      (∀ (j : Nat) t v, fn.params[j]? = some t → args[j]? = some v → Value.okWide C.prog W .any base t v) →
      DataW.Whole enc C.prog fn.params.toList s.vars apart W args.toList ds gs before →
      W.ShapedOpen C.prog →
      Calls C.prog f args W fun e W' => ∃ v, e = .returned v ∧ s.post enc C.prog fn apart fresh handsOn again W args v W') :
    ReturnsInHanded a C os f .any (fun w args => (s.pre enc C.prog fn conds apart w args ∧ X w args) ∧ sizedMet enc C.prog fn (OpenSpec.ofChange s) apart w args) (s.post enc C.prog fn apart fresh handsOn again) := by
  refine returnsInHanded_of_calls own started noInit witness ?_
  intro w tape i _ hsh _ hok hpre _
  obtain ⟨_, _, _, fn', hfn', _, _, _, _, hval⟩ := hok
  have e : fn' = fn := Option.some.inj (hfn'.symm.trans hfn)
  subst e
  obtain ⟨⟨⟨ds, gs, before, hw, hc⟩, hx⟩, hz⟩ := hpre
  have hw' := DataW.Whole.of_heap (w' := w.forCall tape i) (by rfl) hw
  refine (contract (w.forCall tape i) w.heap.size i.args ds gs before hval hw' hsh).mono fun e W' ⟨v, he, hp⟩ => ?_
  subst he
  exact ChangeSpec.post_blind hp
theorem maxLen_cell {W : World} (h : W.ShapedOpen Tryz.prog) : ∃ m, W.cell? ⟨0, 0, none⟩ = some (.int .i64 m) :=
  cell_of_shapedOpen_int (zero := #[.int .i64 0]) h (of_decide_eq_true (by kernel_rfl)) (by kernel_rfl) rfl (by kernel_rfl) (by kernel_rfl) Tryz.underlying3
set_option maxRecDepth 100000 in
theorem lifted (os : Os) (started : os.Started) (H : Type) (enc : TypeId × Value → H) :
    ReturnsInHanded {} Tryz.checked os 5 .any (fun w args => (Rows.registryBrokenSpec.pre enc Tryz.prog Tryz.f5 [] false w args ∧ laidMetH Tryz.prog Rows.registryBrokenRow.laid w) ∧ sizedMet enc Tryz.prog Tryz.f5 (OpenSpec.ofChange Rows.registryBrokenSpec) false w args)
      (Rows.registryBrokenSpec.post enc Tryz.prog Tryz.f5 false true false false) := by
  refine of_change_and_shaped (C := Tryz.checked) (X := fun w _ => laidMetH Tryz.prog Rows.registryBrokenRow.laid w) (fun _ _ _ hh h => h.of_heap hh) own started (by kernel_rfl) Tryz.func5
    (ChangeSpec.witness_shaped (enc := enc) (C := Tryz.checked) (os := os) (X := fun w _ => laidMetH Tryz.prog Rows.registryBrokenRow.laid w) false (World.laidAll Tryz.prog os Rows.registryBrokenRow.laid) #[.string ByteArray.empty] 8 (World.laidAll_os _ _ _)
      (World.shaped_of_ZipB (by kernel_rfl) (by kernel_rfl)) (by kernel_rfl) (by kernel_rfl) (by kernel_rfl)
      (by rw [MakeChecks.laidMetH_plain _ _ _ (by kernel_rfl)]; exact laidMet_laidAll _ (by kernel_rfl) (by kernel_rfl))) ?_
  intro W base args ds gs before hval0 hW hsh
  have hval : ∀ (j : Nat) t v, Tryz.f5.params[j]? = some t → args[j]? = some v → Value.okWide Tryz.prog W .any base t v := hval0
  have hW' := hW
  obtain ⟨p, q, hA0, hV, rfl, _, _⟩ := hW
  have hA : DataW.TrodAll enc Tryz.prog W 0 (fun _ => true) true Tryz.f5.params.toList args.toList ds p := hA0
  rw [Tryz.params5] at hA hval
  obtain ⟨v0, vs0, d0, ds0, p0, q0, hargs, rfl, rfl, h0, r0⟩ := trodAll_cons hA
  obtain ⟨rfl, rfl, rfl⟩ := trodAll_nil r0
  obtain rfl : args = #[v0] := by cases args; simp_all
  obtain ⟨rfl, rfl⟩ := trodVars_none hV
  have k0 := h0
  have lt0 : ∀ x ∈ p0, x.block < W.heap.size := by obtain ⟨m, hm⟩ := k0; exact DataW.trod_lt m _ _ _ hm
  obtain ⟨a0, rfl, _, _, w0⟩ := open_string Tryz.underlying9 (hval 0 9 v0 rfl rfl) h0
  obtain ⟨mx, hm⟩ := maxLen_cell hsh
  clear hA0 hval0
  refine (broken_walk a0.data.toList W mx hm).mono fun e W' ⟨he, bel⟩ => ?_
  subst he
  exact ⟨_, rfl, _, _, _, [], _, [], hW', trodAll_mk1 (shut_bool Tryz.underlying4 _), (trodAll_cons_mk (Below.trod laidOut (by kernel_rfl) (of_decide_eq_true (by kernel_rfl)) k0 bel lt0) trodAll_mk0), rfl, bel.frame _, fun h => by cases h⟩
theorem holds : Rows.RegistryBrokenSaid :=
  OpenClaim.holds_of_wide 5 Tryz.f5 rfl rfl rfl rfl rfl rfl rfl ⟨rfl, rfl, rfl, rfl, rfl⟩ rfl rfl rfl rfl rfl (by kernel_rfl) Tryz.func5 (by kernel_rfl)
    (of_decide_eq_true (by kernel_rfl)) (by unfold Func.isWrapper; first | (rw [if_pos (by decide +kernel)]; kernel_rfl) | (rw [if_neg (by decide +kernel)]; exact ⟨rfl, rfl⟩))
    (fun os started H enc _ => lifted os started H enc)
theorem proved : Rows.RegistryBrokenCardSaid :=
  Claim7.holds_tied_plain_at .later [] [.data, .pinned] true (true, "001393a862b43c9ef6ac355f73487ca34bf9e497a5f6c1c554225c1cc5e10233") false holds (fun _ h => by cases h) (by kernel_rfl) (fun _ h => by cases h) registryBroken_row_tie rfl ⟨rfl, rfl⟩ (by kernel_rfl) rfl
    (fun f fn hf hfn => by
      obtain rfl : f = 5 := Option.some.inj ((show Tryz.prog.funcNamed Rows.registryBrokenRow.func = some 5 by kernel_rfl).symm.trans hf) |>.symm
      obtain rfl : fn = Tryz.f5 := (Option.some.inj (Tryz.func5.symm.trans hfn)).symm
      exact ⟨by kernel_rfl, fun j t ht => by
        rw [Tryz.params5] at ht
        have hmem : t ∈ [9] := by simpa using Array.mem_of_getElem? ht
        have hall : ([9].all fun u => !Tryz.prog.wantsStandIn u) = true := by kernel_rfl
        exact (show Tryz.prog.wantsStandIn t = false by simpa using List.all_eq_true.1 hall t hmem)⟩)
    (by kernel_rfl)
#print axioms proved
end Go.Proofs.YtdghhffknfkcaaaGreatDoor.registryBroken
