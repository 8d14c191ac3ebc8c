/- CommandBack: for every row of commands and every text the law answers true; the listed tables are tied to the text of the program. No condition of its own. -/
import Derived.Test.YtoekggbbkcmknaaGreatDoorB09
import Derived.Test.YtoekggbbkcmknaaGreatDoorB08
import Derived.ProofKit
import Derived.OpenShut
import Derived.ChangeArms
import Derived.ChangeSlices
import Derived.ChangeOld
import Derived.Carry
import Derived.Deep.Slices
import Derived.Lib.SmallJoins
import Derived.WalkKit
import Derived.Test.YtoekggbbkcmknaaGreatDoorCards
import Derived.Test.YtoekggbbkcmknaaGreatDoorTie
import Derived.ShutString
import Derived.Below
import Derived.HandedShaped
import Derived.Lay
import Derived.LaidOnce
import Derived.SevenTiedAt
import Derived.MakeChecks
import Derived.Shelf.Vars
set_option maxRecDepth 100000
set_option maxHeartbeats 4000000
set_option linter.unusedVariables false
/- CommandBack: the law's walk. -/
namespace Go.Proofs.YtoekggbbkcmknaaGreatDoor
open Go.RowKit
attribute [local go_sem] Oper.semAt_some
attribute [local go_sem ↓] zeroC_eq newC_eq loadC_eq storeC_eq buildC_eq zeroR_eq newR_eq loadR_eq storeR_eq buildR_eq
attribute [local go_sem] run_zeroC run_newC run_buildC0 run_buildC1 run_neqC run_eqlC run_guardC run_zeroR run_newR run_buildR0 run_buildR1 run_neqR run_eqlR run_guardR
attribute [local go_sem ↓] bslC_eq bslR_eq
attribute [local go_sem] run_bslC run_bslR
theorem boxed_below {w w' : World} {b B : Nat} {t : TypeId} {v : Value} (h : Boxed w b t v) (hb : Below B w w') (hlt : b < B) : Boxed w' b t v := (hb.block b hlt).trans h
theorem batchR_ok {l : List Cm} (h : (batchR l).2 = 0) : batchR l = (batchB l, 0) ∧ l.length ≤ 64 ∧ ∀ c ∈ l, wrongC c = 0 := by
  unfold batchR at h ⊢
  split at h
  · exact absurd h (show (6 : Int) ≠ 0 by decide)
  · rename_i h1
    split at h
    · rename_i h2; rw [if_neg h1, if_pos h2]; exact ⟨rfl, by omega, firstW_zero l h2⟩
    · rename_i h2; exact absurd h h2
/-- What the law keeps. -/
structure BJ (w : World) (W : World) : Prop where
  R : Boxed W w.heap.size 4 (.bool false)
  B : Below w.heap.size w W
  G : w.heap.size < W.heap.size
theorem BJ.below {w W W' : World} (h : BJ w W) (hb : Below W.heap.size W W') : BJ w W' := ⟨boxed_below h.R hb h.G, h.B.trans (hb.mono h.B.size), Nat.lt_of_lt_of_le h.G hb.size⟩
theorem BJ.start (w : World) : BJ w (w.alloc (.cells #[.bool false] 4)) := ⟨Boxed.new w _ _, below_alloc' _ _, by simp⟩
theorem BJ.ret {w W : World} (h : BJ w W) {tmps : Array Value} (hp : tmps[4]? = some (.pointer (some ⟨w.heap.size, 0, none⟩))) :
    ∃ v, (results Tryz.f5 tmps).run Tryz.prog (W.setCell ⟨w.heap.size, 0, none⟩ (.bool true)) = .ok v (W.setCell ⟨w.heap.size, 0, none⟩ (.bool true)) ∧ Ending.returned v = .returned (.bool true) ∧ Below w.heap.size w (W.setCell ⟨w.heap.size, 0, none⟩ (.bool true)) := by
  have hc : (W.setCell ⟨w.heap.size, 0, none⟩ (.bool true)).cell? ⟨w.heap.size, 0, none⟩ = some (.bool true) := (h.R.set (.bool true)).cell
  exact ⟨.bool true, by simp [results, Tryz.results5, go_sem, hp, hc], rfl, h.B.setCell (p := ⟨w.heap.size, 0, none⟩) (Nat.le_refl _) _⟩
section
variable {W W' : World} {B : Nat} {row : Option Nat}
theorem boxed_kept {b : Nat} {t : TypeId} {x : Value} (h : Boxed W b t x) (hg : W.grownBy W' row) (hr : ∀ r, row = some r → B ≤ r ∧ ∃ o : Obj, W.heap[r]? = some o ∧ o.isCells = false) : Boxed W' b t x :=
  (grownBy_keeps_cells hg (fun r e => (hr r e).2) h rfl).trans h
end
/-- What a round over the kinds keeps. -/
structure BI (w : World) (g : Nat) (pre : List Nat) (W : World) : Prop where
  J : BJ w W
  N : Boxed W g 3 (.int .i64 pre.length)
  G : w.heap.size < g
theorem BI.own (w : World) (g B : Nat) (hB : w.heap.size ≤ B) : OwnFrom B (BI w g) := fun pre W W' row h hg hr =>
  ⟨⟨boxed_kept h.J.R hg hr, (ownFrom_below (β := Unit) (Nat.le_refl _) hB) () _ _ _ h.J.B hg hr, (boxed_kept h.J.R hg hr).lt⟩, boxed_kept h.N hg hr, h.G⟩
theorem BI.drewN {w W : World} {g : Nat} {pre : List Nat} (h : BI w g pre W) (q : Nat) : BI w g pre (W.drewN q) := ⟨h.J.below (below_drewN' (Below.refl _ _) q), h.N, h.G⟩
theorem BI.start {w W : World} (h : BJ w W) : BI w W.heap.size [] (W.alloc (.cells #[.int .i64 0] 3)) := ⟨h.below (below_alloc' _ _), Boxed.new W _ _, h.G⟩
theorem BI.go {w W : World} {g B : Nat} {pre : List Nat} (x : Nat) (h : BI w g pre W) : KeepsFrom B W (W.setCell ⟨g, 0, none⟩ (.int .i64 ((pre.length : Int) + 1))) ∧ BI w g (pre ++ [x]) (W.setCell ⟨g, 0, none⟩ (.int .i64 ((pre.length : Int) + 1))) := by
  refine ⟨(KeepsOthers.setCell _ _ _).from _, ⟨h.J.R.other (by have := h.G; omega) _, h.J.B.setCell (p := ⟨g, 0, none⟩) (by show _ ≤ g; have := h.G; omega) _, by simpa using h.J.G⟩, ?_, h.G⟩
  have := h.N.set (.int .i64 ((pre.length : Int) + 1))
  simpa using this
theorem step_put {w W : World} {D : Nat} {o : Obj} (hK : W.heap[D]? = some (.deferred (some []))) (hD : w.heap.size < D) (hX : Boxed W w.heap.size 4 (.bool true)) (hB : Below w.heap.size w W) :
    Boxed (W.putObj D o) w.heap.size 4 (.bool true) ∧ Below w.heap.size w (W.putObj D o) := by
  have hg := grownBy_putObj' W D o
  have hr : ∀ r, some D = some r → w.heap.size ≤ r ∧ ∃ o : Obj, W.heap[r]? = some o ∧ o.isCells = false := fun r e => by cases e; exact ⟨by omega, _, hK, rfl⟩
  exact ⟨boxed_kept hX hg hr, (ownFrom_below (β := Unit) (Nat.le_refl _) (Nat.le_refl _)) () _ _ _ hB hg hr⟩
theorem BI.fin {w W : World} {g D : Nat} {tm : Array Value} (h : BI w g kinds W) (hK : W.heap[D]? = some (.deferred (some []))) (hD : w.heap.size < D) (hp : tm[4]? = some (.pointer (some ⟨w.heap.size, 0, none⟩))) :
    bodyPostM WF 8 Tryz.prog Tryz.f5 (fun e W' => e = .returned (.bool true) ∧ Below w.heap.size w W') .ret { tmps := tm, defers := [{ target := .collected D, args := #[] }] } (W.setCell ⟨w.heap.size, 0, none⟩ (.bool true)) := by
  have hK' : (W.setCell ⟨w.heap.size, 0, none⟩ (.bool true)).heap[D]? = some (.deferred (some [])) := (Below.heap_setCell _ _ _ _ (by show D ≠ w.heap.size; omega)).trans hK
  obtain ⟨x1, b1⟩ := step_put (o := .deferred none) hK' hD (h.J.R.set (.bool true)) (h.J.B.setCell (p := ⟨w.heap.size, 0, none⟩) (Nat.le_refl _) _)
  have r1 := x1.cell
  refine ⟨by simp, .inl ⟨_, _, rfl, run_takeDeferred hK', ?_⟩⟩
  exact ⟨_, by simp [results, Tryz.results5, go_sem, hp, r1], rfl, b1⟩
theorem kinds_next {pre : List Nat} {x : Nat} (h : pre ++ [x] <+: kinds) : x = pre.length ∧ x < 13 := by
  obtain ⟨t, ht⟩ := h
  have h1 : kinds[pre.length]? = some x := by rw [← ht]; simp
  have h2 : pre.length < 13 := by have := congrArg List.length ht; simp [kinds] at this; omega
  rw [kinds_at _ h2] at h1
  exact ⟨(Option.some.inj h1).symm, by rw [← Option.some.inj h1]; exact h2⟩
theorem name_low (k : Nat) (h : k < 13) : (str (nameL (k + 1))).size ≤ 1000 ∧ (∀ (i : Nat) (h : i < (str (nameL (k + 1))).size), 97 ≤ ((str (nameL (k + 1)))[i]'h).toNat ∧ ((str (nameL (k + 1)))[i]'h).toNat ≤ 122) ∧ (str (nameL (k + 1))).toList.isEmpty = false := by
  have hall : ∀ b ∈ nameL (k + 1), 97 ≤ b.toNat ∧ b.toNat ≤ 122 := by
    match k, h with
    | 0, _ | 1, _ | 2, _ | 3, _ | 4, _ | 5, _ | 6, _ | 7, _ | 8, _ | 9, _ | 10, _ | 11, _ | 12, _ => decide
  have hlen : 0 < (nameL (k + 1)).length ∧ (nameL (k + 1)).length ≤ 1000 := by
    match k, h with
    | 0, _ | 1, _ | 2, _ | 3, _ | 4, _ | 5, _ | 6, _ | 7, _ | 8, _ | 9, _ | 10, _ | 11, _ | 12, _ => decide
  generalize nameL (k + 1) = l at hall hlen
  refine ⟨hlen.2, fun i hi => hall _ ?_, ?_⟩
  · exact List.getElem_mem (l := l) hi
  · have h1 : (str l).toList = l := by simp [str, ByteArray.toList_eq]
    rw [h1]
    cases l with
    | nil => exact absurd hlen.1 (by decide)
    | cons a l => rfl
def BS (w : World) (u v : Value) (l : List Cm) (W : World) : Prop := SlG Cm.vals 18 W u l ∧ SlW W v l ∧ BJ w W
theorem BS.u {w W : World} {u v : Value} {l : List Cm} (h : BS w u v l W) : SlG Cm.vals 18 W u l := h.1
theorem BS.v {w W : World} {u v : Value} {l : List Cm} (h : BS w u v l W) : SlW W v l := h.2.1
theorem BS.j {w W : World} {u v : Value} {l : List Cm} (h : BS w u v l W) : BJ w W := h.2.2
theorem BS.below {w W W' : World} {u v : Value} {l : List Cm} (h : BS w u v l W) (hb : Below W.heap.size W W') : BS w u v l W' := ⟨h.1.below hb, h.2.1.below hb, h.2.2.below hb⟩
set_option maxHeartbeats 4000000 in
set_option maxRecDepth 1000000 in
set_option maxHeartbeats 1000000 in
theorem back_walk (v : Value) (l : List Cm) (s : ByteArray) (w : World) (hF : Forms w) (hN : Names w) (hv : SlW w v l) (hok : ∀ c ∈ l, c.ok) :
    Calls Tryz.prog 5 #[v, .string s] w fun e w' => e = .returned (.bool true) ∧ Below w.heap.size w w' := by
  obtain ⟨a, b, o, c, rfl, hA, hx⟩ := hv.get
  have HA := Lib.hid hA
  have HX := Lib.hid hx
  have HV := Lib.hid hv
  have HF := Lib.hid hF
  have HN := Lib.hid hN
  have HOK := Lib.hid hok
  have HAW := Lib.hid (fun W (hV : Forms W) => awake_any W hV)
  clear hx hv hF hN hok hA
  obtain ⟨w0, hw0⟩ : ∃ w0, w0 = w.alloc (.cells #[.bool false] 4) := ⟨_, rfl⟩
  have HJ0 : Hid (BJ w w0) := by rw [hw0]; exact BJ.start w
  have HF0 : Hid (Forms w0) := by rw [hw0]; exact HF.out.alloc _
  have r0 := HJ0.out.R.cell
  have f0 := HJ0.out.R.frozen
  by_cases h64 : (64 : Int) < (l.length : Int)
  · refine (callsIn_wide (n := 8)).1 (callsIn_of_wp_marks Tryz.func5 rfl trivial ?_ rfl)
    simp only [Tryz.ntmps5, List.size_toArray, List.length_cons, List.length_nil, Nat.reduceAdd, Nat.reduceSub, Array.replicate_succ, Array.replicate_zero, List.push_toArray, List.append_toArray, List.nil_append, List.cons_append]
    refine (wpIn_wide (n := 8)).2 ?_
    obtain ⟨Q, hQ⟩ : ∃ Q, Q = bodyPostM WF 8 Tryz.prog Tryz.f5 (fun e W' => e = .returned (.bool true) ∧ Below w.heap.size w W') := ⟨_, rfl⟩
    rw [← hQ]
    have HQ := Lib.hid hQ
    clear hQ
    go_wp2_with (go_at_call 6; rw [← hw0]; refine (HAW.out _ HF0.out).mono ?_; rintro e w1 ⟨rfl, hb1⟩; have HJ1 := Lib.hid (HJ0.out.below hb1); have r1 := HJ1.out.R.cell; have f1 := HJ1.out.R.frozen)
    rw [HQ.out]
    exact HJ1.out.ret rfl
  have g64 : decide ((64 : Int) < (l.length : Int)) = false := decide_eq_false h64
  by_cases h4 : (4000 : Int) < (s.size : Int)
  · refine (callsIn_wide (n := 8)).1 (callsIn_of_wp_marks Tryz.func5 rfl trivial ?_ rfl)
    simp only [Tryz.ntmps5, List.size_toArray, List.length_cons, List.length_nil, Nat.reduceAdd, Nat.reduceSub, Array.replicate_succ, Array.replicate_zero, List.push_toArray, List.append_toArray, List.nil_append, List.cons_append]
    refine (wpIn_wide (n := 8)).2 ?_
    obtain ⟨Q, hQ⟩ : ∃ Q, Q = bodyPostM WF 8 Tryz.prog Tryz.f5 (fun e W' => e = .returned (.bool true) ∧ Below w.heap.size w W') := ⟨_, rfl⟩
    rw [← hQ]
    have HQ := Lib.hid hQ
    clear hQ
    go_wp2_with (go_at_call 6; rw [← hw0]; refine (HAW.out _ HF0.out).mono ?_; rintro e w1 ⟨rfl, hb1⟩; have HJ1 := Lib.hid (HJ0.out.below hb1); have HF1 := Lib.hid (HF0.out.below hb1 HF0.out.lt); have r1 := HJ1.out.R.cell; have f1 := HJ1.out.R.frozen; clear hb1)
    rw [HQ.out]
    exact HJ1.out.ret rfl
  · have g4 : decide ((4000 : Int) < (s.size : Int)) = false := decide_eq_false h4
    have hl64 : l.length ≤ 64 := by omega
    clear h64 h4
    refine (callsIn_wide (n := 8)).1 (callsIn_of_wp_marks Tryz.func5 rfl trivial ?_ rfl)
    simp only [Tryz.ntmps5, List.size_toArray, List.length_cons, List.length_nil, Nat.reduceAdd, Nat.reduceSub, Array.replicate_succ, Array.replicate_zero, List.push_toArray, List.append_toArray, List.nil_append, List.cons_append]
    refine (wpIn_wide (n := 8)).2 ?_
    obtain ⟨Q, hQ⟩ : ∃ Q, Q = bodyPostM WF 8 Tryz.prog Tryz.f5 (fun e W' => e = .returned (.bool true) ∧ Below w.heap.size w W') := ⟨_, rfl⟩
    rw [← hQ]
    have HQ := Lib.hid hQ
    clear hQ
    go_wp2_with (go_at_call 6; rw [← hw0]; refine (HAW.out _ HF0.out).mono ?_; rintro e w1 ⟨rfl, hb1⟩; have HJ1 := Lib.hid (HJ0.out.below hb1); have HF1 := Lib.hid (HF0.out.below hb1 HF0.out.lt); have r1 := HJ1.out.R.cell; have f1 := HJ1.out.R.frozen; clear hb1)
    clear r0 f0 HJ0 HF0 HAW
    go_loopg [30] l.length (fun n i wr => ∃ k : Nat, k ≤ l.length ∧ n = l.length - k ∧ i = .int .i64 k ∧ Hid (BJ w wr))
    case atStart => exact ⟨0, Nat.zero_le _, rfl, rfl, HJ1⟩
    case round =>
      obtain ⟨k, hk, rfl, rfl, HJ⟩ := hrel
      by_cases hlt : k < l.length
      · obtain ⟨x, hx⟩ : ∃ x, l[k]? = some x := ⟨_, List.getElem?_eq_getElem hlt⟩
        have hC := run_loadAtC (HX.out.below rfl HJ.out.B) hx
        obtain rfl := HA.out (by intro h; rw [h] at hlt; cases hlt)
        have hn2 := BxC.newC wr (Cm.zero 0)
        have hst1 := run_storeC hn2 x
        obtain ⟨hn3, hu3⟩ := hn2.stored x
        have hld := run_loadC hn3
        have HJ2 := Lib.hid (HJ.out.below ((below_alloc' wr (objC (Cm.zero 0))).trans (hu3.below (Nat.le_refl _))))
        have HLG := Lib.hid (fun W => light_any x W)
        clear hn2 hn3 hu3 hx
        by_cases hm : longest x ≤ 2000
        · rw [decide_eq_true hm] at HLG
          clear hm
          go_wp2_with (go_at_call 8; refine (HLG.out _).mono ?_; rintro e w3 ⟨rfl, hb3⟩; have HJ3 := Lib.hid (HJ2.out.below hb3); clear hb3)
          go_roundg (l.length - (k + 1))
          case measure => omega
          case rel => exact ⟨k + 1, by omega, rfl, by go_num, HJ3⟩
        · rw [decide_eq_false hm] at HLG
          clear hm
          go_wp2_with (go_at_call 8; refine (HLG.out _).mono ?_; rintro e w3 ⟨rfl, hb3⟩; have HJ3 := Lib.hid (HJ2.out.below hb3); have r3 := HJ3.out.R.cell; have f3 := HJ3.out.R.frozen; clear hb3)
          rw [HQ.out]
          exact HJ3.out.ret rfl
      · obtain rfl : k = l.length := by omega
        have HBA := Lib.hid (fun W (hV : Forms W) (hs : SlW W (.slice a l.length c) l) => batch_any _ l HOK.out W hV hs)
        have HFR := Lib.hid (HF1.out)
        clear HX HA
        have HFw : Hid (Forms wr) := HF.out.below HJ.out.B HF.out.lt
        have HVw : Hid (SlW wr (.slice a l.length c) l) := HV.out.below HJ.out.B
        by_cases hb : (batchR l).2 = 0
        case' neg =>
          have hbe : ((batchR l).2 == 0) = false := by rw [beq_eq_false_iff_ne]; exact hb
          clear hb
          generalize batchR l = bt at HBA hbe
          obtain ⟨bs, be⟩ := bt
          simp only at HBA hbe
          go_upto_region 16 with (go_at_call 12; refine (HBA.out _ HFw.out HVw.out).mono ?_; rintro e wa ⟨rfl, hba⟩; have HJa := Lib.hid (HJ.out.below hba); have HFa := Lib.hid (HFw.out.below hba HFw.out.lt); clear hba)
        case' pos =>
          obtain ⟨hbr, hl6, hwr⟩ := batchR_ok hb
          rw [hbr] at HBA
          have hpb := fun W (hV : Forms W) => parseBatch_any (batchB l) W hV
          have hlc := batch_back l hl6 (fun c hc => ⟨HOK.out c hc, hwr c hc⟩)
          have HPB : Hid (∀ W, Forms W → Calls Tryz.prog 15 #[.string (batchB l)] W fun e w' => ∃ v, e = .returned (.tuple #[v, .int .i64 0]) ∧ SlG Cm.vals 18 w' v l ∧ Below W.heap.size W w') := by
            intro W hV
            refine (hpb W hV).mono ?_
            rintro e w' h
            cases h with
            | ok _ v he hs _ hb => rw [hlc] at hs; exact ⟨v, he, hs, hb⟩
            | bad hz _ _ => rw [hlc] at hz; exact absurd rfl hz
          clear hb hbr hwr hpb hlc
          simp only at HBA
          generalize batchB l = bs at HBA HPB
          go_upto_region 14 with (first
            | (go_at_call 12; refine (HBA.out _ HFw.out HVw.out).mono ?_; rintro e w4 ⟨rfl, hba⟩; have HJ4 := Lib.hid (HJ.out.below hba); have HF4 := Lib.hid (HFw.out.below hba HFw.out.lt); have HV4 := Lib.hid (HVw.out.below hba); clear hba)
            | (go_at_call 15; refine (HPB.out _ HF4.out).mono ?_; rintro e w5 ⟨vm, rfl, hs5, hb5⟩; obtain ⟨am, cm, rfl⟩ := hs5.slice; have HS5 := Lib.hid (show BS w (.slice am l.length cm) (.slice a l.length c) l w5 from ⟨hs5, HV4.out.below hb5, HJ4.out.below hb5⟩); have HF5 := Lib.hid (HF4.out.below hb5 HF4.out.lt); clear hs5 hb5))
          have HL7 : Hid (l.length ≤ 70) := by show _ ≤ _; omega
          have HL6 := Lib.hid hl6
          go_upto_region 16 with (first
            | (go_at_call 20; (refine (same2 _ _ l HL6.out _ (RowG.sl encV (H6.out.1)) (RowG.sl encV H6.out.2.1)).mono ?_); rintro e wa ⟨rfl, hb8⟩; have HJa := Lib.hid (H6.out.2.2.1.j.below hb8); have HFa := Lib.hid (H6.out.2.2.2.below hb8 H6.out.2.2.2.lt); clear hb8)
            | (go_at_call 21; (with_reducible refine (toW_any (.slice a l.length c) l HL7.out _ H5.out.2.1.v).mono ?_); rintro e w7 ⟨v7, rfl, hr7, hb7⟩; obtain ⟨a7, c7, rfl⟩ := hr7.slice; have H6 := Lib.hid (And.intro (H5.out.1.below hb7) (And.intro hr7 (And.intro (H5.out.2.1.below hb7) (H5.out.2.2.below hb7 H5.out.2.2.lt)))); clear hr7 hb7)
            | (go_at_call 21; (with_reducible refine (to_any (.slice am l.length cm) l HL7.out _ HS5.out.u).mono ?_); rintro e w6 ⟨v6, rfl, hr6, hb6⟩; obtain ⟨a6, c6, rfl⟩ := hr6.slice; have H5 := Lib.hid (And.intro hr6 (And.intro (HS5.out.below hb6) (HF5.out.below hb6 HF5.out.lt))); clear hr6 hb6))
        all_goals
          have HPA := Lib.hid (fun W (hW : Forms W) => parse_any s W hW)
          rw [parse_same] at HPA
          have HPX := Lib.hid (parse_back s)
          generalize parseD s = PR at HPA HPX
          obtain ⟨pc, pe⟩ := PR
          simp only at HPA HPX
          by_cases hp : pe = 0
          case' neg =>
            have hpe : (pe == 0) = false := by rw [beq_eq_false_iff_ne]; exact hp
            clear hp HPX
            go_upto_region 21 with (go_at_call 13; refine (HPA.out _ HFa.out).mono ?_; rintro e w8 ⟨rfl, hb8⟩; obtain ⟨hst8, hx8, hs8⟩ := stashC w8 pc; have HJb := Lib.hid ((HJa.out.below hb8).below hs8); clear hb8 hs8 hx8)
          case' pos =>
            obtain ⟨hpo, hpb⟩ := HPX.out hp
            subst hp
            have HBY := Lib.hid (fun W (hW : Forms W) => bytes_any pc hpo W hW)
            rw [hpb] at HBY
            have hss : (s.toList != s.toList) = false := by simp
            clear HPX hpb hpo
            go_upto_region 21 with (first
              | (go_at_call 10; (with_reducible refine (HBY.out _ HF9.out).mono ?_); rintro e w9 ⟨rfl, hb9⟩; have HJb := Lib.hid (HJ9.out.below hb9); clear hb9)
              | (go_at_call 13; refine (HPA.out _ HFa.out).mono ?_; rintro e w8 ⟨rfl, hb8⟩; obtain ⟨hst8, hx8, hs8⟩ := stashC w8 pc; have hld8 := run_loadC hx8; have HJ9 := Lib.hid ((HJa.out.below hb8).below hs8); have HF9 := Lib.hid ((HFa.out.below hb8 HFa.out.lt).below hs8 (HFa.out.below hb8 HFa.out.lt).lt); clear hb8 hs8 hx8))
          case' neg => generalize (setFrom (w8.alloc (objC (Cm.zero 0))) w8.heap.size 0 pc.vals) = w9 at HJb hst8 ⊢
          all_goals
            have HNb := Lib.hid (HN.out.below HJb.out.B HN.out.lt)
            have HI0 := Lib.hid (BI.start HJb.out)
            have HG9 := Lib.hid HJb.out.B.size
            clear hst8
            go_wp2_with (go_at_call 24; refine (kinds_any _).mono ?_; rintro e _ ⟨rfl, rfl⟩)
            refine (wpIn_wide (n := 8)).1 ?_
            refine rangeX (n := 8) (gf := 48) (lb := #[]) (by decide) rfl (fun args w => by kernel_rfl) (kinds1_in 7 (by decide)) (fun _ => rfl) (.ret) (.ret) (.inl ⟨rfl, rfl⟩)
              (BI w w9.heap.size) (fun _ _ => False) (BI.own _ _ _ (by have := HG9.out; simp; omega)) (fun _ _ _ _ h _ _ => h.elim) (fun pre W h => HN.out.below h.J.B HN.out.lt) (fun pre W q h => h.drewN q) HI0.out
              ?_ (fun x W => W) (fun x W => .inl rfl) ?assign ?body ?done ?stop
            case stop => exact fun D pre W hD hX => hX.elim
            case assign =>
              intro lr x W K hK
              unfold arK
              gi_wp2
              exact hK
            case body =>
              intro lr pre x W W2 hW2 hI hpre
              obtain ⟨rfl, hx13⟩ := kinds_next hpre
              have HGO := Lib.hid (hI.go (B := (w9.alloc (.cells #[.int .i64 0] 3)).heap.size) pre.length)
              have q0 := hI.N.cell
              have q1 := hI.N.frozen
              have q2 : ∀ v, (W2.setCell ⟨w9.heap.size, 0, none⟩ v).cell? ⟨w9.heap.size, 0, none⟩ = some v := fun v => World.cell?_setCell_same _ _ _ q0
              obtain ⟨n1, n2, n3⟩ := name_low pre.length hx13
              have HLW := Lib.hid (fun W => lower_any (str (nameL (pre.length + 1))) n1 n2 W)
              clear hI hpre hW2 n1 n2
              generalize str (nameL (pre.length + 1)) = nm at HLW n3 ⊢
              generalize pre.length = pl at *
              have hwr : wrap64 ((pl : Int) + 1) = (pl : Int) + 1 := by unfold wrap64; omega
              have hplu : (pl : Int) < 13 := by omega
              have HWR := Lib.hid hwr
              clear hwr
              gi_wp2_with (refine ⟨trivial, ?_⟩; gi_at_call 25; refine (CallsIn.inRound lr (callsIn_wide.2 (HLW.out _))).mono ?_; rintro e w11 ⟨rfl, q, rfl⟩)
              obtain ⟨g1, g2⟩ := HGO.out
              exact .inl ⟨rfl, g1.trans ⟨Nat.le_refl _, fun _ _ _ h _ => h⟩, g2.drewN q⟩
            case done =>
              intro D W hD hI hK
              have t0 := hI.N.cell
              have t1 := hI.J.R.cell
              have t2 := hI.J.R.frozen
              have hz13 : (((kinds.length : Nat) : Int) == 13) = true := by decide
              have HI := Lib.hid hI
              have HK := Lib.hid hK
              have HD : Hid (w.heap.size < D) := by show _ < _; have := HG9.out; simp at hD; omega
              clear hI hK hD
              go_wp2_with fail
              rw [HQ.out]
              exact HI.out.fin HK.out HD.out rfl
end Go.Proofs.YtoekggbbkcmknaaGreatDoor
/- What is laid for CommandBack: the forms and the names. -/
namespace Go.Proofs.YtoekggbbkcmknaaGreatDoor
open Go.ChangeShapes Go.WideShapes Go.RowKit
theorem laid5 {W : World} {d0 d3 d4 : DataW Unit} {n0 n3 n4 : String} (h : laidMet Tryz.prog [(n0, d0), ("taproot/command.names", Rows.laid_taproot_command_names), ("taproot/command.forms", Rows.laid_taproot_command_forms), (n3, d3), (n4, d4)] W) : Forms W ∧ Names W := by
  obtain ⟨ps, ⟨_, _, _, _, _, _, _, _, _, _, ⟨g, t, cs, fuel, p, q, hg, ht, hvar, hd, ⟨g2, t2, cs2, fuel2, p2, q2, hg2, ht2, hvar2, hd2, _, _⟩, _⟩, _⟩, _⟩ := h
  obtain rfl := Option.some.inj (gNames.symm.trans hg)
  obtain rfl := Option.some.inj (gNamesT.symm.trans ht)
  obtain rfl := Option.some.inj (gForms.symm.trans hg2)
  obtain rfl := Option.some.inj (gFormsT.symm.trans ht2)
  exact ⟨forms_of_trod hvar2 hd2, names_of_trod hvar hd⟩
end Go.Proofs.YtoekggbbkcmknaaGreatDoor
/- Rows of commands that are handed in, opened. -/
namespace Go.Proofs.YtoekggbbkcmknaaGreatDoor
open Go.Joins Go.ChangeShapes Go.WideShapes Go.ChangeAt Go.RowKit Go.Deep
theorem bnd_u32 {q : Int} (h : (Lit.int .u32 q).wf = true) : 0 ≤ q ∧ q < 4294967296 := by
  simp [Lit.wf, IntKind.min, IntKind.max, IntKind.signed, IntKind.bits] at h
  omega
theorem bnd_u64 {q : Int} (h : (Lit.int .u64 q).wf = true) : 0 ≤ q ∧ q < 18446744073709551616 := by
  simp [Lit.wf, IntKind.min, IntKind.max, IntKind.signed, IntKind.bits] at h
  omega
theorem bnd_i64 {q : Int} (h : (Lit.int .i64 q).wf = true) : -9223372036854775808 ≤ q ∧ q < 9223372036854775808 := by
  simp [Lit.wf, IntKind.min, IntKind.max, IntKind.signed, IntKind.bits] at h
  omega
theorem co_s : Tryz.prog.cellsOf 9 = 1 := by kernel_rfl
theorem co_u32 : Tryz.prog.cellsOf 26 = 1 := by kernel_rfl
theorem co_u64 : Tryz.prog.cellsOf 25 = 1 := by kernel_rfl
theorem co_i64 : Tryz.prog.cellsOf 3 = 1 := by kernel_rfl
theorem co_b : Tryz.prog.cellsOf 4 = 1 := by kernel_rfl
theorem co_q : Tryz.prog.cellsOf 28 = 5 := by kernel_rfl
theorem co_bd : Tryz.prog.cellsOf 30 = 4 := by kernel_rfl
theorem co_c : Tryz.prog.cellsOf 32 = 18 := by kernel_rfl
theorem lst4 {α : Type} (l : List α) (h : l.length = 4) : ∃ a0 a1 a2 a3, l = [a0, a1, a2, a3] := by
  rcases l with _ | ⟨a0, _ | ⟨a1, _ | ⟨a2, _ | ⟨a3, _ | ⟨z, l⟩⟩⟩⟩⟩
  all_goals first | (cases h; done) | exact ⟨_, _, _, _, rfl⟩ | (simp at h)
theorem lst5 {α : Type} (l : List α) (h : l.length = 5) : ∃ a0 a1 a2 a3 a4, l = [a0, a1, a2, a3, a4] := by
  rcases l with _ | ⟨a0, _ | ⟨a1, _ | ⟨a2, _ | ⟨a3, _ | ⟨a4, _ | ⟨z, l⟩⟩⟩⟩⟩⟩
  all_goals first | (cases h; done) | exact ⟨_, _, _, _, _, rfl⟩ | (simp at h)
theorem lst11 {α : Type} (l : List α) (h : l.length = 11) : ∃ a0 a1 a2 a3 a4 a5 a6 a7 a8 a9 a10, l = [a0, a1, a2, a3, a4, a5, a6, a7, a8, a9, a10] := by
  rcases l with _ | ⟨a0, _ | ⟨a1, _ | ⟨a2, _ | ⟨a3, _ | ⟨a4, _ | ⟨a5, _ | ⟨a6, _ | ⟨a7, _ | ⟨a8, _ | ⟨a9, _ | ⟨a10, _ | ⟨z, l⟩⟩⟩⟩⟩⟩⟩⟩⟩⟩⟩⟩
  all_goals first | (cases h; done) | exact ⟨_, _, _, _, _, _, _, _, _, _, _, rfl⟩ | (simp at h)
theorem lst18 {α : Type} (l : List α) (h : l.length = 18) : ∃ a0 a1 a2 a3 a4 a5 a6 a7 a8 a9 a10 a11 a12 a13 a14 a15 a16 a17, l = [a0, a1, a2, a3, a4, a5, a6, a7, a8, a9, a10, a11, a12, a13, a14, a15, a16, a17] := by
  rcases l with _ | ⟨a0, _ | ⟨a1, _ | ⟨a2, _ | ⟨a3, _ | ⟨a4, _ | ⟨a5, _ | ⟨a6, _ | ⟨a7, _ | ⟨a8, _ | ⟨a9, _ | ⟨a10, _ | ⟨a11, _ | ⟨a12, _ | ⟨a13, _ | ⟨a14, _ | ⟨a15, _ | ⟨a16, _ | ⟨a17, _ | ⟨z, l⟩⟩⟩⟩⟩⟩⟩⟩⟩⟩⟩⟩⟩⟩⟩⟩⟩⟩⟩
  all_goals first | (cases h; done) | exact ⟨_, _, _, _, _, _, _, _, _, _, _, _, _, _, _, _, _, _, rfl⟩ | (simp at h)
section
variable {H : Type} {enc : TypeId × Value → H} {W : World} {b1 : Nat} {sp : Nat → Bool} {held : Bool} {k : Nat}
theorem one_s {v : Value} {y} (h : DataW.trod enc Tryz.prog W b1 sp held k 9 [v] = some y) : ∃ s : ByteArray, v = .string s := by
  obtain ⟨s, h1, _, _⟩ := DataW.trod_string Tryz.underlying9 h
  exact ⟨s, by simpa using h1⟩
theorem one_b {v : Value} {y} (h : DataW.trod enc Tryz.prog W b1 sp held k 4 [v] = some y) : ∃ s : Bool, v = .bool s := by
  obtain ⟨s, h1, _⟩ := DataW.trod_bool Tryz.underlying4 h
  exact ⟨s, by simpa using h1⟩
theorem one_i {v : Value} {y} (h : DataW.trod enc Tryz.prog W b1 sp held k 3 [v] = some y) : ∃ q : Int, v = .int .i64 q ∧ -9223372036854775808 ≤ q ∧ q < 9223372036854775808 := by
  obtain ⟨q, h1, _, w1⟩ := DataW.trod_int Tryz.underlying3 h
  exact ⟨q, by simpa using h1, (bnd_i64 w1).1, (bnd_i64 w1).2⟩
theorem one_u32 {v : Value} {y} (h : DataW.trod enc Tryz.prog W b1 sp held k 26 [v] = some y) : ∃ q : Nat, v = .int .u32 q ∧ q < 4294967296 := by
  obtain ⟨q, h1, _, w1⟩ := DataW.trod_int Tryz.underlying26 h
  obtain ⟨m, n⟩ := bnd_u32 w1
  obtain ⟨N, rfl⟩ := Int.eq_ofNat_of_zero_le m
  exact ⟨N, by simpa using h1, by omega⟩
theorem one_u64 {v : Value} {y} (h : DataW.trod enc Tryz.prog W b1 sp held k 25 [v] = some y) : ∃ q : Nat, v = .int .u64 q ∧ q < 18446744073709551616 := by
  obtain ⟨q, h1, _, w1⟩ := DataW.trod_int Tryz.underlying25 h
  obtain ⟨m, n⟩ := bnd_u64 w1
  obtain ⟨N, rfl⟩ := Int.eq_ofNat_of_zero_le m
  exact ⟨N, by simpa using h1, by omega⟩
set_option maxRecDepth 100000 in
theorem open_queue {v1 v2 v3 v4 v5 : Value} {y} (h : DataW.trod enc Tryz.prog W b1 sp held k 28 [v1, v2, v3, v4, v5] = some y) : ∃ (s1 : ByteArray) (s2 s3 s4 : Nat) (s5 : ByteArray), v1 = .string s1 ∧ v2 = .int .u32 s2 ∧ v3 = .int .u64 s3 ∧ v4 = .int .u32 s4 ∧ v5 = .string s5 ∧ s2 < 4294967296 ∧ s3 < 18446744073709551616 ∧ s4 < 4294967296 := by
  obtain ⟨xs, k, hk, hxy, _, hxl, hf'⟩ := DataW.trod_struct Tryz.underlying28 h
  obtain ⟨y0, y1, y2, y3, y4, rfl⟩ := lst5 xs hxl
  have g0 : DataW.trod enc Tryz.prog W b1 sp held k 9 (([v1, v2, v3, v4, v5].drop 0).take (Tryz.prog.cellsOf 9)) = some y0 := hf' 0 _ rfl
  rw [co_s] at g0
  obtain ⟨s1, e1⟩ := one_s (v := v1) g0
  have g1 : DataW.trod enc Tryz.prog W b1 sp held k 26 (([v1, v2, v3, v4, v5].drop 1).take (Tryz.prog.cellsOf 26)) = some y1 := hf' 1 _ rfl
  rw [co_u32] at g1
  obtain ⟨s2, e2, u2⟩ := one_u32 (v := v2) g1
  have g2 : DataW.trod enc Tryz.prog W b1 sp held k 25 (([v1, v2, v3, v4, v5].drop 2).take (Tryz.prog.cellsOf 25)) = some y2 := hf' 2 _ rfl
  rw [co_u64] at g2
  obtain ⟨s3, e3, u3⟩ := one_u64 (v := v3) g2
  have g3 : DataW.trod enc Tryz.prog W b1 sp held k 26 (([v1, v2, v3, v4, v5].drop 3).take (Tryz.prog.cellsOf 26)) = some y3 := hf' 3 _ rfl
  rw [co_u32] at g3
  obtain ⟨s4, e4, u4⟩ := one_u32 (v := v4) g3
  have g4 : DataW.trod enc Tryz.prog W b1 sp held k 9 (([v1, v2, v3, v4, v5].drop 4).take (Tryz.prog.cellsOf 9)) = some y4 := hf' 4 _ rfl
  rw [co_s] at g4
  obtain ⟨s5, e5⟩ := one_s (v := v5) g4
  exact ⟨s1, s2, s3, s4, s5, e1, e2, e3, e4, e5, u2, u3, u4⟩
set_option maxRecDepth 100000 in
theorem open_binding {v6 v7 v8 v9 : Value} {y} (h : DataW.trod enc Tryz.prog W b1 sp held k 30 [v6, v7, v8, v9] = some y) : ∃ (s6 : ByteArray) (s7 : Int) (s8 s9 : ByteArray), v6 = .string s6 ∧ v7 = .int .i64 s7 ∧ v8 = .string s8 ∧ v9 = .string s9 ∧ -9223372036854775808 ≤ s7 ∧ s7 < 9223372036854775808 := by
  obtain ⟨xs, k, hk, hxy, _, hxl, hf'⟩ := DataW.trod_struct Tryz.underlying30 h
  obtain ⟨y0, y1, y2, y3, rfl⟩ := lst4 xs hxl
  have g0 : DataW.trod enc Tryz.prog W b1 sp held k 9 (([v6, v7, v8, v9].drop 0).take (Tryz.prog.cellsOf 9)) = some y0 := hf' 0 _ rfl
  rw [co_s] at g0
  obtain ⟨s6, e6⟩ := one_s (v := v6) g0
  have g1 : DataW.trod enc Tryz.prog W b1 sp held k 3 (([v6, v7, v8, v9].drop 1).take (Tryz.prog.cellsOf 3)) = some y1 := hf' 1 _ rfl
  rw [co_i64] at g1
  obtain ⟨s7, e7, l7, u7⟩ := one_i (v := v7) g1
  have g2 : DataW.trod enc Tryz.prog W b1 sp held k 9 (([v6, v7, v8, v9].drop 2).take (Tryz.prog.cellsOf 9)) = some y2 := hf' 2 _ rfl
  rw [co_s] at g2
  obtain ⟨s8, e8⟩ := one_s (v := v8) g2
  have g3 : DataW.trod enc Tryz.prog W b1 sp held k 9 (([v6, v7, v8, v9].drop 3).take (Tryz.prog.cellsOf 9)) = some y3 := hf' 3 _ rfl
  rw [co_s] at g3
  obtain ⟨s9, e9⟩ := one_s (v := v9) g3
  exact ⟨s6, s7, s8, s9, e6, e7, e8, e9, l7, u7⟩
set_option maxRecDepth 100000 in
theorem open_command {cs : List Value} (hl : cs.length = 18) {y} (h : DataW.trod enc Tryz.prog W b1 sp held k 32 cs = some y) : ∃ c : Cm, c.ok ∧ cs = c.vals := by
  obtain ⟨v0, v1, v2, v3, v4, v5, v6, v7, v8, v9, v10, v11, v12, v13, v14, v15, v16, v17, rfl⟩ := lst18 cs hl
  obtain ⟨xs, k, hk, hxy, _, hxl, hf'⟩ := DataW.trod_struct Tryz.underlying32 h
  obtain ⟨y0, y1, y2, y3, y4, y5, y6, y7, y8, y9, y10, rfl⟩ := lst11 xs hxl
  have g0 : DataW.trod enc Tryz.prog W b1 sp held k 3 (([v0, v1, v2, v3, v4, v5, v6, v7, v8, v9, v10, v11, v12, v13, v14, v15, v16, v17].drop 0).take (Tryz.prog.cellsOf 3)) = some y0 := hf' 0 _ rfl
  rw [co_i64] at g0
  obtain ⟨s0, e0, l0, u0⟩ := one_i (v := v0) g0
  have g1 : DataW.trod enc Tryz.prog W b1 sp held k 28 (([v0, v1, v2, v3, v4, v5, v6, v7, v8, v9, v10, v11, v12, v13, v14, v15, v16, v17].drop 1).take (Tryz.prog.cellsOf 28)) = some y1 := hf' 1 _ rfl
  rw [co_q] at g1
  obtain ⟨s1, s2, s3, s4, s5, e1, e2, e3, e4, e5, u2, u3, u4⟩ := open_queue (v1 := v1) (v2 := v2) (v3 := v3) (v4 := v4) (v5 := v5) g1
  have g2 : DataW.trod enc Tryz.prog W b1 sp held k 30 (([v0, v1, v2, v3, v4, v5, v6, v7, v8, v9, v10, v11, v12, v13, v14, v15, v16, v17].drop 6).take (Tryz.prog.cellsOf 30)) = some y2 := hf' 2 _ rfl
  rw [co_bd] at g2
  obtain ⟨s6, s7, s8, s9, e6, e7, e8, e9, l7, u7⟩ := open_binding (v6 := v6) (v7 := v7) (v8 := v8) (v9 := v9) g2
  have g3 : DataW.trod enc Tryz.prog W b1 sp held k 9 (([v0, v1, v2, v3, v4, v5, v6, v7, v8, v9, v10, v11, v12, v13, v14, v15, v16, v17].drop 10).take (Tryz.prog.cellsOf 9)) = some y3 := hf' 3 _ rfl
  rw [co_s] at g3
  obtain ⟨s10, e10⟩ := one_s (v := v10) g3
  have g4 : DataW.trod enc Tryz.prog W b1 sp held k 9 (([v0, v1, v2, v3, v4, v5, v6, v7, v8, v9, v10, v11, v12, v13, v14, v15, v16, v17].drop 11).take (Tryz.prog.cellsOf 9)) = some y4 := hf' 4 _ rfl
  rw [co_s] at g4
  obtain ⟨s11, e11⟩ := one_s (v := v11) g4
  have g5 : DataW.trod enc Tryz.prog W b1 sp held k 9 (([v0, v1, v2, v3, v4, v5, v6, v7, v8, v9, v10, v11, v12, v13, v14, v15, v16, v17].drop 12).take (Tryz.prog.cellsOf 9)) = some y5 := hf' 5 _ rfl
  rw [co_s] at g5
  obtain ⟨s12, e12⟩ := one_s (v := v12) g5
  have g6 : DataW.trod enc Tryz.prog W b1 sp held k 25 (([v0, v1, v2, v3, v4, v5, v6, v7, v8, v9, v10, v11, v12, v13, v14, v15, v16, v17].drop 13).take (Tryz.prog.cellsOf 25)) = some y6 := hf' 6 _ rfl
  rw [co_u64] at g6
  obtain ⟨s13, e13, u13⟩ := one_u64 (v := v13) g6
  have g7 : DataW.trod enc Tryz.prog W b1 sp held k 25 (([v0, v1, v2, v3, v4, v5, v6, v7, v8, v9, v10, v11, v12, v13, v14, v15, v16, v17].drop 14).take (Tryz.prog.cellsOf 25)) = some y7 := hf' 7 _ rfl
  rw [co_u64] at g7
  obtain ⟨s14, e14, u14⟩ := one_u64 (v := v14) g7
  have g8 : DataW.trod enc Tryz.prog W b1 sp held k 25 (([v0, v1, v2, v3, v4, v5, v6, v7, v8, v9, v10, v11, v12, v13, v14, v15, v16, v17].drop 15).take (Tryz.prog.cellsOf 25)) = some y8 := hf' 8 _ rfl
  rw [co_u64] at g8
  obtain ⟨s15, e15, u15⟩ := one_u64 (v := v15) g8
  have g9 : DataW.trod enc Tryz.prog W b1 sp held k 25 (([v0, v1, v2, v3, v4, v5, v6, v7, v8, v9, v10, v11, v12, v13, v14, v15, v16, v17].drop 16).take (Tryz.prog.cellsOf 25)) = some y9 := hf' 9 _ rfl
  rw [co_u64] at g9
  obtain ⟨s16, e16, u16⟩ := one_u64 (v := v16) g9
  have g10 : DataW.trod enc Tryz.prog W b1 sp held k 4 (([v0, v1, v2, v3, v4, v5, v6, v7, v8, v9, v10, v11, v12, v13, v14, v15, v16, v17].drop 17).take (Tryz.prog.cellsOf 4)) = some y10 := hf' 10 _ rfl
  rw [co_b] at g10
  obtain ⟨s17, e17⟩ := one_b (v := v17) g10
  exact ⟨⟨s0, s1, s2, s3, s4, s5, s6, s7, s8, s9, s10, s11, s12, s13, s14, s15, s16, s17⟩, ⟨l0, u0, u2, u3, u4, l7, u7, u13, u14, u15, u16⟩, by rw [e0, e1, e2, e3, e4, e5, e6, e7, e8, e9, e10, e11, e12, e13, e14, e15, e16, e17]; rfl⟩
end
theorem choose_cmd {n : Nat} {P : Nat → Cm → Prop} (h : ∀ i, i < n → ∃ x, P i x) : ∃ f : Nat → Cm, ∀ i, i < n → P i (f i) := by
  classical
  refine ⟨fun i => if hi : i < n then Classical.choose (h i hi) else Cm.zero 0, fun i hi => ?_⟩
  simp only [hi, dif_pos]
  exact Classical.choose_spec (h i hi)
set_option maxRecDepth 100000 in
theorem open_commands {H : Type} {enc : TypeId × Value → H} {W : World} {r : Reach} {b0 b1 : Nat} {sp : Nat → Bool} {held : Bool} {v : Value} {d : DataW H} {p : List MemPlace}
    (hv : Value.okWide Tryz.prog W r b0 22 v) (h : DataW.Trod enc Tryz.prog W b1 sp held 22 v d p) :
    ∃ l : List Cm, l.length ≤ maxLen ∧ (∀ c ∈ l, c.ok) ∧ SlW W v l := by
  obtain ⟨a0, len, cap, rfl⟩ := okWide_slice Tryz.underlying22 hv
  obtain ⟨fuel, hf⟩ := h
  rcases open_slice Tryz.underlying22 hf with hcs | ⟨a, len', cap', m, n, D, Pl, hcs, _, hl, hm, hz, _, hcell⟩
  · have hcs := hcs.1
    simp [Value.cells] at hcs
    obtain ⟨rfl, rfl, rfl⟩ := hcs
    exact ⟨[], Nat.zero_le _, fun p hp => by simp at hp, (SlG.nil _).w⟩
  · simp [Value.cells] at hcs
    obtain ⟨rfl, rfl, rfl⟩ := hcs
    have hlen : len ≤ m := by rw [hz]; split <;> omega
    have each : ∀ i, i < len → ∃ x : Cm, x.ok ∧ ∀ (j : Nat) u, x.vals[j]? = some u → W.cell? (a.add (i * 18 + j)) = some u := by
      intro i hi
      obtain ⟨cs', h1, h2⟩ := hcell i (by omega)
      rw [co_c] at h1
      obtain ⟨_, hlen', hcc⟩ := World.cells?_some h1
      obtain ⟨x, hx, rfl⟩ := open_command hlen' h2
      refine ⟨x, hx, fun j u hu => ?_⟩
      have hj := (List.getElem?_eq_some_iff.1 hu).1
      have c0 := hcc j (by rw [hlen'] at hj; exact hj)
      rw [add_add] at c0
      rw [c0]
      exact hu
    by_cases h0 : len = 0
    · subst h0
      exact ⟨[], Nat.zero_le _, fun p hp => by simp at hp, ⟨some a, 0, 0, cap, rfl, fun h => absurd rfl h, fun j p hj => by simp at hj⟩⟩
    · obtain ⟨b, off, spot⟩ := a
      obtain ⟨p0, _, hsp⟩ := each 0 (by omega)
      have hspot : spot = none := by simpa [Addr.add] using World.cell?_spot (hsp 0 _ rfl)
      subst hspot
      obtain ⟨f, hfx⟩ := choose_cmd each
      refine ⟨(List.range len).map f, by simp; omega, ?_, ⟨some ⟨b, off, none⟩, b, off, cap, by simp, fun _ => rfl, fun j p hj i u hu => ?_⟩⟩
      · intro p hp
        obtain ⟨i, hi, rfl⟩ := List.mem_map.1 hp
        exact (hfx i (List.mem_range.1 hi)).1
      · have hjl : j < len := by
          have := (List.getElem?_eq_some_iff.1 hj).1
          simpa using this
        simp [hjl] at hj
        subst hj
        have c0 := (hfx j hjl).2 i u hu
        rw [add_plain'] at c0
        rw [Nat.add_assoc]
        exact c0
end Go.Proofs.YtoekggbbkcmknaaGreatDoor
namespace Go.Proofs.YtoekggbbkcmknaaGreatDoor.commandBack
open Go.ChangeShapes Go.WideShapes Go.ChangeAt Go.RowKit Go.Lib Go.Shelf
open Go.ChangeMaps (open_string shut_string)
theorem own : ownKnob Tryz.prog.godebug = none := by kernel_rfl
theorem laidOut : laidOutB Tryz.prog = true := by kernel_rfl
theorem of_change_and_shaped {a : Assume} {C : Checked} {os : Os} {f : FuncId} {fn : Func} {s : ChangeSpec} {conds : List PathCond} {apart fresh handsOn again : Bool} {H : Type} {enc : TypeId × Value → H} {X : World → Array Value → Prop}
    (hX : ∀ (w w' : World) (args : Array Value), w.heap = w'.heap → X w args → X w' args)
    (own : ownKnob C.prog.godebug = none) (started : os.Started) (noInit : C.prog.inits.idxOf? f = none) (hfn : C.prog.funcs[f]? = some fn)
    (witness : ∃ (w : World) (tape : Tape) (i : Input), w.os = os ∧ (w.forCall tape i).Shaped C.prog ∧ i.vars = [] ∧ Input.okWide C.prog (w.forCall tape i) .any w.heap.size f i ∧
      ((s.pre enc C.prog fn conds apart (w.forCall tape i).memory i.args ∧ X (w.forCall tape i).memory i.args) ∧ sizedMet enc C.prog fn (OpenSpec.ofChange s) apart (w.forCall tape i).memory i.args) ∧ a.holds C.prog (lone (Frame.enter C.prog f i.args .normal) [] (w.forCall tape i)))
    (contract : ∀ (W : World) (base : Nat) (args : Array Value) (ds gs : List (DataW H)) (before : List MemPlace),
      (∀ (j : Nat) t v, fn.params[j]? = some t → args[j]? = some v → Value.okWide C.prog W .any base t v) →
      DataW.Whole enc C.prog fn.params.toList s.vars apart W args.toList ds gs before →
      W.ShapedOpen C.prog → X W args →
      Calls C.prog f args W fun e W' => ∃ v, e = .returned v ∧ s.post enc C.prog fn apart fresh handsOn again W args v W') :
    ReturnsInHanded a C os f .any (fun w args => (s.pre enc C.prog fn conds apart w args ∧ X w args) ∧ sizedMet enc C.prog fn (OpenSpec.ofChange s) apart w args) (s.post enc C.prog fn apart fresh handsOn again) := by
  refine returnsInHanded_of_calls own started noInit witness ?_
  intro w tape i _ hsh _ hok hpre _
  obtain ⟨_, _, _, fn', hfn', _, _, _, _, hval⟩ := hok
  have e : fn' = fn := Option.some.inj (hfn'.symm.trans hfn)
  subst e
  obtain ⟨⟨⟨ds, gs, before, hw, hc⟩, hx⟩, hz⟩ := hpre
  have hw' := DataW.Whole.of_heap (w' := w.forCall tape i) (by rfl) hw
  refine (contract (w.forCall tape i) w.heap.size i.args ds gs before hval hw' hsh (hX _ _ _ (by rfl) hx)).mono fun e W' ⟨v, he, hp⟩ => ?_
  subst he
  exact ChangeSpec.post_blind hp
set_option maxRecDepth 100000 in
theorem lifted (os : Os) (started : os.Started) (H : Type) (enc : TypeId × Value → H) :
    ReturnsInHanded {} Tryz.checked os 5 .any (fun w args => (Rows.commandBackSpec.pre enc Tryz.prog Tryz.f5 [] false w args ∧ laidMetH Tryz.prog Rows.commandBackRow.laid w) ∧ sizedMet enc Tryz.prog Tryz.f5 (OpenSpec.ofChange Rows.commandBackSpec) false w args)
      (Rows.commandBackSpec.post enc Tryz.prog Tryz.f5 false true false false) := by
  refine of_change_and_shaped (C := Tryz.checked) (X := fun w _ => laidMetH Tryz.prog Rows.commandBackRow.laid w) (fun _ _ _ hh h => h.of_heap hh) own started (by kernel_rfl) Tryz.func5
    (ChangeSpec.witness_shaped (enc := enc) (C := Tryz.checked) (os := os) (X := fun w _ => laidMetH Tryz.prog Rows.commandBackRow.laid w) false (World.laidAll Tryz.prog os Rows.commandBackRow.laid) #[.slice none 0 0, .string ByteArray.empty] 8 (World.laidAll_os _ _ _)
      (World.shaped_of_ZipB (by kernel_rfl) (by kernel_rfl)) (by kernel_rfl) (by kernel_rfl) (by kernel_rfl)
      (by rw [MakeChecks.laidMetH_plain _ _ _ (by kernel_rfl)]; exact laidMet_laidAll _ (by kernel_rfl) (by kernel_rfl))) ?_
  intro W base args ds gs before hval0 hW hsh hL
  have hval : ∀ (j : Nat) t v, Tryz.f5.params[j]? = some t → args[j]? = some v → Value.okWide Tryz.prog W .any base t v := hval0
  have hW' := hW
  obtain ⟨p, q, hA0, hV, rfl, _, _⟩ := hW
  have hA : DataW.TrodAll enc Tryz.prog W 0 (fun _ => true) true Tryz.f5.params.toList args.toList ds p := hA0
  rw [Tryz.params5] at hA hval
  obtain ⟨v0, vs0, d0, ds0, p0, q0, hargs, rfl, rfl, h0, r0⟩ := trodAll_cons hA
  obtain ⟨v1, vs1, d1, ds1, p1, q1, rfl, rfl, rfl, h1, r1⟩ := trodAll_cons r0
  obtain ⟨rfl, rfl, rfl⟩ := trodAll_nil r1
  obtain rfl : args = #[v0, v1] := by cases args; simp_all
  obtain ⟨rfl, rfl⟩ := trodVars_none hV
  have k0 := h0
  have lt0 : ∀ x ∈ p0, x.block < W.heap.size := by obtain ⟨m, hm⟩ := k0; exact DataW.trod_lt m _ _ _ hm
  have k1 := h1
  have lt1 : ∀ x ∈ p1, x.block < W.heap.size := by obtain ⟨m, hm⟩ := k1; exact DataW.trod_lt m _ _ _ hm
  have hv0 := hval 0 22 v0 rfl rfl
  obtain ⟨a1, rfl, _, _, w1⟩ := open_string Tryz.underlying9 (hval 1 9 v1 rfl rfl) h1
  obtain ⟨l1, hl1, hok1, hs1⟩ := open_commands hv0 h0
  clear hA0 hval0
  refine (back_walk v0 l1 a1 W (laid5 (by have hl := hL; rw [MakeChecks.laidMetH_plain _ _ _ (by kernel_rfl)] at hl; exact hl)).1 (laid5 (by have hl := hL; rw [MakeChecks.laidMetH_plain _ _ _ (by kernel_rfl)] at hl; exact hl)).2 hs1 hok1).mono fun e W' ⟨he, bel⟩ => ?_
  subst he
  exact ⟨_, rfl, _, _, _, [], _, [], hW', trodAll_mk1 (shut_bool Tryz.underlying4 _), (trodAll_cons_mk (Below.trod laidOut (by kernel_rfl) (of_decide_eq_true (by kernel_rfl)) k0 bel lt0) (trodAll_cons_mk (Below.trod laidOut (by kernel_rfl) (of_decide_eq_true (by kernel_rfl)) k1 bel lt1) trodAll_mk0)), rfl, bel.frame _, fun h => by cases h⟩
theorem holds : Rows.CommandBackSaid :=
  OpenClaim.holds_of_wide 5 Tryz.f5 rfl rfl rfl rfl rfl rfl rfl ⟨rfl, rfl, rfl, rfl, rfl⟩ rfl rfl rfl rfl rfl (by kernel_rfl) Tryz.func5 (by kernel_rfl)
    (of_decide_eq_true (by kernel_rfl)) (by unfold Func.isWrapper; first | (rw [if_pos (by decide +kernel)]; kernel_rfl) | (rw [if_neg (by decide +kernel)]; exact ⟨rfl, rfl⟩))
    (fun os started H enc _ => lifted os started H enc)
theorem proved : Rows.CommandBackCardSaid :=
  Claim7.holds_tied_plain_at .later [] [.data, .data, .data, .pinned, .pinned] true (true, "86d3b2b539f86c9f9f19e2a2c0bf5fa5b9d7221a5c78daa6c8ce60d1026105a7") false holds (fun _ h => by cases h) (by kernel_rfl) (fun _ h => by cases h) commandBack_row_tie rfl ⟨rfl, rfl⟩ (by kernel_rfl) rfl
    (fun f fn hf hfn => by
      obtain rfl : f = 5 := Option.some.inj ((show Tryz.prog.funcNamed Rows.commandBackRow.func = some 5 by kernel_rfl).symm.trans hf) |>.symm
      obtain rfl : fn = Tryz.f5 := (Option.some.inj (Tryz.func5.symm.trans hfn)).symm
      exact ⟨by kernel_rfl, fun j t ht => by
        rw [Tryz.params5] at ht
        have hmem : t ∈ [22, 9] := by simpa using Array.mem_of_getElem? ht
        have hall : ([22, 9].all fun u => !Tryz.prog.wantsStandIn u) = true := by kernel_rfl
        exact (show Tryz.prog.wantsStandIn t = false by simpa using List.all_eq_true.1 hall t hmem)⟩)
    (by kernel_rfl)
#print axioms proved
end Go.Proofs.YtoekggbbkcmknaaGreatDoor.commandBack
