/- Texts of one seat, merged. -/
import Derived.Test.YtpkoehnjladpoaaD11
import Derived.Lib.SlicesDelete
import Derived.Deep.RegionLaw
import Derived.Test.YtpkoehnjladpoaaD03
import Derived.Test.YtpkoehnjladpoaaD04
import Derived.WalkLawsBesides
import Derived.Lib.Strings
import Derived.Test.YtpkoehnjladpoaaD08
import Derived.Deep.DeepCutAuto
import Derived.Test.YtpkoehnjladpoaaD10
import Derived.Test.YtpkoehnjladpoaaD05
import Derived.Test.YtpkoehnjladpoaaD06
set_option maxRecDepth 100000
set_option maxHeartbeats 4000000
set_option linter.unusedVariables false
/- The contracts of slices.Insert and slices.Delete of one cell, at a row of one's own. -/
namespace Go.Proofs.Ytpkoehnjladpoaa
open Go.RowKit
open Sl (Cl Kd)
theorem insertK_any (B vb vc i : Nat) (v : Value) (l : List Kd) (x : Kd) (T : TypeId) (w : World) (hi : i ≤ l.length) (hl : l.length ≤ 100000) (hv : RowK w B v l) (hB : B ≤ w.heap.size) (hvb : w.heap[vb]? = some (.cells (cellsK x).toArray T (0, 0))) (hne : v.ownBlock ≠ some vb) :
    Calls Try.prog 110 #[v, .int .i64 i, .slice (some ⟨vb, 0, none⟩) 1 vc] w (InsOutK B (l.take i ++ x :: l.drop i) w) := by
  by_cases he : i = l.length
  · subst he
    rw [List.take_length, List.drop_length]
    exact insertK_end B vb vc v l x T w hv hB hl hvb
  · obtain ⟨_, h1⟩ := hv
    rcases h1 with ⟨rfl, h0⟩ | ⟨g, cap, cur, rfl, hg, hh, hn, hm, hs, ht⟩
    · omega
    · have hng : vb ≠ g := fun h => hne (by rw [h]; rfl)
      by_cases hr : l.length + 1 ≤ cap
      · exact insertK_shift B g cap i vb vc cur l x T w (by omega) hr hm hh hg hs ht hvb hng
      · exact insertK_grow B g cap i vb vc cur l x T w (by omega) hn hr hl hB hh ht hvb
theorem flat_cutK : ∀ (l : List Kd) (i : Nat), (l.flatMap cellsK).take (i * 2) = (l.take i).flatMap cellsK ∧ (l.flatMap cellsK).drop (i * 2) = (l.drop i).flatMap cellsK := by
  intro l
  induction l with
  | nil => intro i; simp
  | cons y t ih =>
    intro i
    cases i with
    | zero => simp
    | succ i =>
      obtain ⟨h1, h2⟩ := ih i
      have hl := cellsK_len y
      rw [List.flatMap_cons, List.take_succ_cons, List.drop_succ_cons, List.flatMap_cons, show (i + 1) * 2 = (cellsK y).length + i * 2 by rw [hl]; omega, List.take_append, List.drop_append]
      rw [List.take_of_length_le (by omega), List.drop_of_length_le (by omega), Nat.add_sub_cancel_left, h1, h2]
      exact ⟨rfl, rfl⟩
/-- The row is shorter; nothing but its own block is another. -/
inductive DelOutK (B : Nat) (u : Value) (l : List Kd) (w : World) (e : Ending) (w' : World) : Prop
  | mk (v : Value) (he : e = .returned v) (hr : RowK w' B v l) (hb : Below B w w') (hk : ∀ k, u.ownBlock ≠ some k → w'.heap[k]? = w.heap[k]?) (hz : w.heap.size ≤ w'.heap.size) (ho : v.ownBlock = u.ownBlock)
def zlK : List Value := [.string ⟨#[]⟩, .int .u32 0]
set_option maxHeartbeats 8000000 in
theorem delK_any (B i : Nat) (v : Value) (l : List Kd) (w : World) (hi : i < l.length) (hl : l.length ≤ 100000) (hv : RowK w B v l) :
    Calls Try.prog 67 #[v, .int .i64 i, .int .i64 ((i : Int) + 1)] w (DelOutK B v (l.take i ++ l.drop (i + 1)) w) := by
  obtain ⟨i0, hi0, hz0, hz1, hz2⟩ := info_parts info47
  obtain ⟨_, h1⟩ := hv
  rcases h1 with ⟨rfl, h0⟩ | ⟨g, cap, cur, rfl, hB, hg, hn, hm, hsz, htk⟩
  · omega
  · have hflen : (l.flatMap cellsK).length = l.length * 2 := flat_len _ _ cellsK_len _
    have hcl : cur.toList.length = cap * 2 := by simpa using hsz
    obtain ⟨news, hnews⟩ : ∃ news, news = (l.flatMap cellsK).drop (i * 2 + 2) := ⟨_, rfl⟩
    have hnl : news.length = (l.length - (i + 1)) * 2 := by rw [hnews, List.length_drop, hflen]; omega
    have hin : ∀ j, j < cap * 2 → (w.drew.cell? ⟨g, j, none⟩).isSome = true ∧ w.drew.frozen? ⟨g, j, none⟩ = false := fun j hj => by
      refine ⟨?_, by show w.frozen? _ = false; simp [World.frozen?, hg]⟩
      show (w.cell? _).isSome = true
      rw [cell_of_row w g j _ _ (0, 0) hg, Array.getElem?_eq_getElem (by omega)]
      rfl
    obtain ⟨A, hA, hsrc⟩ : ∃ A : Addr, (if cap = i + 1 then (some ⟨g, 0, none⟩ : Option Addr) else some ⟨g, (i + 1) * 2, none⟩) = some A ∧ Hid (∀ j u, news[j]? = some u → w.drew.cell? (A.add j) = some u) := by
      by_cases h : cap = i + 1
      · refine ⟨⟨g, 0, none⟩, by simp [h], fun j u hu => ?_⟩
        have hz : news.length = 0 := by rw [hnl]; omega
        rw [List.length_eq_zero_iff.1 hz] at hu
        simp at hu
      · refine ⟨⟨g, (i + 1) * 2, none⟩, by simp [h], fun j u hu => ?_⟩
        exact rowAtK w.drew g cur l hg htk (i + 1) j u (by rw [show (i + 1) * 2 = i * 2 + 2 by omega, ← hnews]; exact hu)
    have s1 : Hid (news.length = (l.length - (i + 1)) * 2) := hnl
    have s2 : Hid (∀ u ∈ news, u.oneCell' = true) := fun u hu => flat_oneK l u (by rw [hnews] at hu; exact List.mem_of_mem_drop hu)
    have s3 : Hid (∀ t, t < news.length → (w.drew.cell? ⟨g, 0 + i * 2 + t, none⟩).isSome = true ∧ w.drew.frozen? ⟨g, 0 + i * 2 + t, none⟩ = false) := fun t ht => hin _ (by rw [hnl] at ht; omega)
    obtain ⟨W1, hW1⟩ : ∃ W1, W1 = w.drew.setCells g (0 + i * 2) news := ⟨_, rfl⟩
    obtain ⟨R1, hR1⟩ : ∃ R1, R1 = cur.toList.take (i * 2) ++ (l.flatMap cellsK).drop (i * 2 + 2) ++ cur.toList.drop (i * 2 + ((l.flatMap cellsK).drop (i * 2 + 2)).length) := ⟨_, rfl⟩
    have hR1l : R1.length = cap * 2 := by rw [hR1]; simp only [List.length_append, List.length_take, List.length_drop, hcl, hflen]; omega
    have hW1' : W1 = w.drew.setRow g R1.toArray := by
      rw [hW1, Nat.zero_add, setCells_row g 52 news (i * 2) cur w.drew hg (by rw [hnl, hsz]; omega), hR1, hnews]
    have hg1 : W1.heap[g]? = some (.cells R1.toArray 52 (0, 0)) := by rw [hW1']; exact setRow_heap w.drew g cur _ _ _ hg
    have hone : l.length - (i + (l.length - (i + 1))) = 1 := by omega
    have hoff : (i + (l.length - (i + 1))) * 2 = l.length * 2 - 2 := by omega
    have hcl1 : ∀ ty, (Builtin.clear_ #[44] ty #[.slice (some ⟨g, (i + (l.length - (i + 1))) * 2, none⟩) (l.length - (i + (l.length - (i + 1)))) (cap - (i + (l.length - (i + 1))))]).run Try.prog W1 = .ok (.tuple #[]) (W1.setCells g (l.length * 2 - 2) zlK) := fun ty => by
      rw [hone, hoff]
      exact run_clear_one W1 _ 52 ty (.agg zlK.toArray) zlK rfl Try.underlying44 (fun w => by kernel_rfl) (by decide) g (l.length * 2 - 2) _ (fun j hj => by
        have hj4 : j < 2 := hj
        rw [cell_of_row W1 g _ _ _ (0, 0) hg1, Array.getElem?_eq_getElem (by rw [List.size_toArray, hR1l]; omega)]; rfl) (fun j hj => by simp [World.frozen?, hg1])
    have HFIN : Hid ((W1.setCells g (l.length * 2 - 2) zlK).ownsRow B 52 2 (.slice (some ⟨g, 0, none⟩) (i + (l.length - (i + 1))) cap) (i + (l.length - (i + 1))) ((l.take i ++ l.drop (i + 1)).flatMap cellsK) ∧ Below B w (W1.setCells g (l.length * 2 - 2) zlK) ∧ (∀ k, g ≠ k → (W1.setCells g (l.length * 2 - 2) zlK).heap[k]? = w.heap[k]?)) := by
      have hzl : zlK.length = 2 := rfl
      rw [setCells_row g 52 zlK (l.length * 2 - 2) R1.toArray W1 hg1 (by rw [hzl, List.size_toArray, hR1l]; omega)]
      refine ⟨?_, ?_, fun k hk => by rw [hW1', setRow_other _ g k _ (Ne.symm hk), setRow_other _ g k _ (Ne.symm hk)]; rfl⟩
      · have hfl : ((l.take i ++ l.drop (i + 1)).flatMap cellsK).length = (i + (l.length - (i + 1))) * 2 := by
          rw [flat_len _ _ cellsK_len _, List.length_append, List.length_take, List.length_drop]; omega
        refine owns_setRow hg1 hB (by omega) hm ?_ hfl ?_
        · rw [hR1]
          show (List.take _ _ ++ _ ++ List.drop _ _).length = _
          rw [seg_del_len (i * 2) (l.length * 2) 2 cur.toList (l.flatMap cellsK) zlK (by omega) htk (by rw [hcl]; omega) hzl, hcl]
        · rw [hoff, hR1]
          show List.take _ (List.take _ _ ++ _ ++ List.drop _ _) = _
          rw [seg_del (i * 2) (l.length * 2) 2 cur.toList (l.flatMap cellsK) zlK (by omega) htk (by rw [hcl]; omega) hzl, (flat_cutK l i).1, show i * 2 + 2 = (i + 1) * 2 by omega, (flat_cutK l (i + 1)).2, List.flatMap_append]
      · rw [hW1']
        exact below_setRow (below_setRow (Below.refl _ _).drew hB _) hB _
    have hW : Hid (W1 = w.drew.setCells g (0 + i * 2) news) := hW1
    have hlen : Hid ((l.take i ++ l.drop (i + 1)).length = i + (l.length - (i + 1))) := by show _ = _; rw [List.length_append, List.length_take, List.length_drop]; omega
    unfold maxLen at hm
    have hie : ¬ ((i : Int) = (i : Int) + 1) := by omega
    have hie2 : ((i : Int) == (i : Int) + 1) = false := by rw [beq_eq_false_iff_ne]; exact hie
    have hb1 : (0 : Int) ≤ (i : Int) + 1 := by omega
    have htn : ((i : Int) + 1).toNat = i + 1 := by omega
    have hb2 : (i : Int) + 1 ≤ (l.length : Int) := by omega
    have hb3 : i ≤ cap := by omega
    have hb4 : i + 1 ≤ cap := by omega
    have hb6 : ¬ (cap = i + (l.length - (i + 1))) := by omega
    have hb7 : i + (l.length - (i + 1)) ≤ l.length := by omega
    have mixed : Try.prog.follows Departure.mixedOrders = true := by kernel_rfl
    clear hW1 hW1' hg1 hR1 hR1l hin hnews hnl hcl hflen hsz htk hg hone hoff hi
    go_enter Try.func67, Try.ntmps67
    go_wp2_with fail
    go_region_law_o (refine step_append_room rfl (.tmp 22) (.tmp 25) 44 rfl 52 i0 2 Try.underlying44 hi0 hz1 g 0 i cap (by simp [Act.eval, Act.put]) A (l.length - (i + 1)) (cap - (i + 1)) news (by simp [Act.eval, Act.put]) s1.out hsrc.out s2.out (by omega) s3.out ?_; rw [← hW.out])
    go_wp2
    go_ret
    refine ⟨_, rfl, ?_, HFIN.out.2.1, fun k hk => HFIN.out.2.2 k (fun h => hk (by rw [← h]; rfl)), HFIN.out.2.1.size, rfl⟩
    show World.ownsRow _ _ _ _ _ _ _
    rw [hlen.out]
    exact HFIN.out.1
end Go.Proofs.Ytpkoehnjladpoaa
/- The contract of Find, at a branch's cells, over rising keys. -/
namespace Go.Proofs.Ytpkoehnjladpoaa
open Go.RowKit
open Sl (Cl Kd)
theorem findFnK_any (x : Kd) (key : List UInt8) (g : Nat) (w : World) (hb : BxK w g) :
    Calls Try.prog 146 #[aggK x, .string (str key), .pointer (some ⟨g, 0, none⟩)] w fun e w' => e = .returned (.int .i64 (Lib.compareBytes (Sl.shK.key x) key)) ∧ Below w.heap.size w w' := by
  have HK := Lib.hid (fun W => keyK2_any x W)
  have HA := Lib.hid (fun o1 => hb.alloc o1)
  have q0 := fun o1 => (HA.out o1).c0
  have q1 := fun o1 => (HA.out o1).c1
  have q2 := fun o1 => (HA.out o1).c2
  have q3 := fun o1 => (HA.out o1).c3
  revert HK
  generalize Sl.shK.key x = kx
  intro HK
  unfold shpK aggK at HK
  unfold aggK
  go_enter Try.func146, Try.ntmps146
  go_wp2_with (first
    | (go_at_call 147; refine (HK.out _).mono ?_; rintro e w1 ⟨rfl, hb1⟩)
    | (go_at_call 105; refine (compare_any _ _ _).mono ?_; rintro e w2 ⟨rfl, rfl⟩))
  go_ret
  exact ⟨rfl, below_step ((Below.refl _ _).alloc (Nat.le_refl _) _) hb1⟩
set_option maxHeartbeats 4000000 in
set_option maxRecDepth 100000 in
theorem bsfK_any (v : Value) (l : List Kd) (hll : l.length ≤ 100000) (key : List UInt8) (g : Nat) (w : World) (hv : SlK w v l) (hb : BxK w g) (hr : Sl.rises Sl.shK l = true) :
    Calls Try.prog 145 #[v, .string (str key), .func (.func 146) #[] #[.pointer (some ⟨g, 0, none⟩)]] w fun e w' => e = .returned (.tuple #[.int .i64 (Sl.place Sl.shK l key : Nat), .bool (Sl.there Sl.shK l key)]) ∧ Below w.heap.size w w' := by
  have HR := Lib.hid hr
  have HBX := Lib.hid hb
  obtain ⟨a, b, o, c, rfl, ha, hx⟩ := hv
  have HX := Lib.hid hx
  have HA := Lib.hid ha
  clear ha hx hr hb
  go_enter Try.func145, Try.ntmps145
  go_wp2
  go_loopg [9, 10] l.length (fun n i j wr => ∃ p q : Nat, p ≤ q ∧ q ≤ l.length ∧ n = q - p ∧ i = .int .i64 p ∧ j = .int .i64 q ∧ Hid (∀ m x, m < p → l[m]? = some x → Sl.less (Sl.shK.key x) key = true) ∧ Hid (∀ m x, q ≤ m → l[m]? = some x → Sl.less (Sl.shK.key x) key = false) ∧ Hid (Below w.heap.size w wr))
  case atStart => exact ⟨0, l.length, Nat.zero_le _, Nat.le_refl _, rfl, rfl, rfl, fun m x h => absurd h (Nat.not_lt_zero m), fun m x h hx => absurd (List.getElem?_eq_some_iff.1 hx).1 (Nat.not_lt.2 h), Below.refl _ _⟩
  case round =>
    obtain ⟨p, q, hpq, hql, rfl, rfl, rfl, HLO, HHI, HB⟩ := hrel
    by_cases hlt : p < q
    · obtain ⟨h, hh⟩ : ∃ h : Nat, h = (p + q) / 2 := ⟨_, rfl⟩
      obtain ⟨x, hx⟩ := take_some l h (by omega)
      have HXK := Lib.hid hx
      obtain ⟨e0, e1⟩ := HX.out h x hx
      have hblt : b < w.heap.size := World.block_lt_of_cell? _ _ e0
      have d0 := (HB.out.cell (p := ⟨b, o + h * 2, none⟩) hblt).trans e0
      have d1 := (HB.out.cell (p := ⟨b, o + h * 2 + 1, none⟩) hblt).trans e1
      have HBr := Lib.hid (HBX.out.below HB.out HBX.out.lt)
      obtain rfl : a = some ⟨b, o, none⟩ := by
        rcases HA.out with h' | h'
        · rw [h'] at hql; have : q ≤ 0 := hql; omega
        · exact h'
      have HC := Lib.hid (fun W (hW : BxK W g) => findFnK_any x key g W hW)
      unfold aggK at HC
      have hlo := Lib.hid (Sl.low_of Sl.shK l key HR.out h x hx)
      have hhi := Lib.hid (Sl.high_of Sl.shK l key HR.out h x hx)
      have hcl := Lib.hid (Sl.cmp_lt (Sl.shK.key x) key)
      have hcg := Lib.hid (Sl.cmp_ge (Sl.shK.key x) key)
      have hhE : ((p : Int) + q) / 2 = (h : Int) := by omega
      have hb1 : p ≤ h := by omega
      have hb2 : h < q := by omega
      have hb3 : h < l.length := by omega
      have hb4 : (h : Int) < l.length := by omega
      clear e0 e1 hx hh
      revert HC hlo hhi hcl hcg
      generalize Lib.compareBytes (Sl.shK.key x) key = cv
      generalize hls : Sl.less (Sl.shK.key x) key = ls
      have HLS := Lib.hid hls
      clear hls
      intro HC hlo hhi hcl hcg
      go_upto_region 5 with fail
      clear hhE
      cases ls
      · have hcv := hcg.out rfl
        clear hcl hcg
        go_wp2_with (go_at_call 146; refine (HC.out _ HBr.out).mono ?_; rintro e w4 ⟨rfl, hb5⟩)
        have HB4 : Hid (Below w.heap.size w w4) := HB.out.trans (hb5.mono HB.out.size)
        clear hb5
        go_roundg (h - p)
        case measure => omega
        case rel => exact ⟨p, h, by omega, by omega, rfl, rfl, rfl, HLO, hhi.out (by simp), HB4⟩
      · have hcv := hcl.out rfl
        clear hcl hcg
        go_wp2_with (go_at_call 146; refine (HC.out _ HBr.out).mono ?_; rintro e w4 ⟨rfl, hb5⟩)
        have HB4 : Hid (Below w.heap.size w w4) := HB.out.trans (hb5.mono HB.out.size)
        clear hb5
        go_roundg (q - (h + 1))
        case measure => omega
        case rel => exact ⟨h + 1, q, by omega, by omega, rfl, by go_num, rfl, hlo.out (by simp), HHI, HB4⟩
    · obtain rfl : p = q := by omega
      have HPL : Hid (Sl.place Sl.shK l key = p) := Sl.place_eq Sl.shK key l p hql HLO.out (fun x hx => HHI.out p x (Nat.le_refl _) hx)
      by_cases hn : p < l.length
      · obtain ⟨x, hx⟩ := take_some l p hn
        obtain ⟨e0, e1⟩ := HX.out p x hx
        have hblt : b < w.heap.size := World.block_lt_of_cell? _ _ e0
        have d0 := (HB.out.cell (p := ⟨b, o + p * 2, none⟩) hblt).trans e0
        have d1 := (HB.out.cell (p := ⟨b, o + p * 2 + 1, none⟩) hblt).trans e1
        have HBr := Lib.hid (HBX.out.below HB.out HBX.out.lt)
        obtain rfl : a = some ⟨b, o, none⟩ := by
          rcases HA.out with h' | h'
          · rw [h'] at hn; cases hn
          · exact h'
        have HC := Lib.hid (fun W (hW : BxK W g) => findFnK_any x key g W hW)
        unfold aggK at HC
        have HTH : Hid (Sl.there Sl.shK l key = (Lib.compareBytes (Sl.shK.key x) key == 0)) := (Sl.there_some Sl.shK l key x (by rw [HPL.out]; exact hx)).trans (Sl.cmp_zero _ _).symm
        have hn' : (p : Int) < l.length := by omega
        clear e0 e1 hx
        revert HC HTH
        generalize Lib.compareBytes (Sl.shK.key x) key = cv
        intro HC HTH
        go_wp2_with (go_at_call 146; refine (HC.out _ HBr.out).mono ?_; rintro e w4 ⟨rfl, hb5⟩)
        go_ret2
        exact ⟨by rw [HPL.out, HTH.out]; rfl, HB.out.trans (hb5.mono HB.out.size)⟩
      · have HTH : Hid (Sl.there Sl.shK l key = false) := Sl.there_none Sl.shK l key (by rw [HPL.out]; omega)
        have hn' : ¬ (p : Int) < l.length := by omega
        go_wp2
        go_ret2
        exact ⟨by rw [HPL.out, HTH.out]; rfl, HB.out⟩
set_option maxHeartbeats 1000000 in
theorem findK_any (v : Value) (l : List Kd) (hll : l.length ≤ 100000) (key : List UInt8) (w : World) (hv : SlK w v l) (hr : Sl.rises Sl.shK l = true) :
    Calls Try.prog 109 #[shpK, v, .string (str key)] w fun e w' => e = .returned (.tuple #[.int .i64 (Sl.place Sl.shK l key : Nat), .bool (Sl.there Sl.shK l key)]) ∧ Below w.heap.size w w' := by
  have hmf : ∀ (fn : Fn) (first cap : Array Value) (w : World), (Instr.makeFunc fn first cap).run Try.prog w = .ok (.func fn first cap) w := fun _ _ _ _ => rfl
  have HWh := Lib.hid (fun W => wholeK_any W)
  have HB0 := Lib.hid (BxK.new w)
  have HS := Lib.hid (fun W (hW : SlK W v l) (hb : BxK W w.heap.size) => bsfK_any v l hll key w.heap.size W hW hb hr)
  have HV := Lib.hid (fun W (hW : Below w.heap.size w W) => hv.below hW)
  have HW0 : Hid (Below w.heap.size w (w.alloc (.cells #[.func (.func 111) #[] #[], .func (.func 113) #[] #[], .func (.func 114) #[] #[], .nilFunc] 124))) := (Below.refl _ _).alloc (Nat.le_refl _) _
  clear hv hr
  revert HS
  generalize Sl.place Sl.shK l key = pl
  generalize Sl.there Sl.shK l key = th
  intro HS
  unfold shpK at HWh ⊢
  go_enter Try.func109, Try.ntmps109
  go_wp2_with (first
    | (go_at_call 144; refine (HWh.out _).mono ?_; rintro e w1 ⟨rfl, hb1⟩; have HB1 := Lib.hid (below_step HW0.out hb1); have HR1 := Lib.hid (HB0.out.below hb1 HB0.out.lt))
    | (go_at_call 145; refine (HS.out _ (HV.out _ HB1.out) HR1.out).mono ?_; rintro e w2 ⟨rfl, hb2⟩))
  go_ret2
  exact ⟨rfl, below_step HB1.out hb2⟩
end Go.Proofs.Ytpkoehnjladpoaa
/- The contract of with: a row of cells, and one more in its place. -/
namespace Go.Proofs.Ytpkoehnjladpoaa
open Go.RowKit
open Sl (Cl Kd Nd Rn)
theorem flat_setK : ∀ (l : List Kd) (p : Nat) (x : Kd), p < l.length → ((l.flatMap cellsK).set (p * 2) (.string (str x.key))).set (p * 2 + 1) (.int .u32 x.page) = (l.take p ++ x :: l.drop (p + 1)).flatMap cellsK
  | [], p, x, h => absurd h (Nat.not_lt_zero _)
  | y :: t, 0, x, _ => by simp [cellsK]
  | y :: t, p + 1, x, h => by
    have ih := flat_setK t p x (by simpa using h)
    have hy := cellsK_len y
    rw [List.take_succ_cons, List.drop_succ_cons, List.cons_append, List.flatMap_cons, List.flatMap_cons, ← ih]
    rw [List.set_append_right _ _ (by omega), show (p + 1) * 2 - (cellsK y).length = p * 2 by omega, List.set_append_right _ _ (by omega), show (p + 1) * 2 + 1 - (cellsK y).length = p * 2 + 1 by omega]

theorem row_someK {w : World} {B : Nat} {v : Value} {l : List Kd} (h : RowK w B v l) (hl : 0 < l.length) :
    ∃ g cap, v = .slice (some ⟨g, 0, none⟩) l.length cap ∧ B ≤ g ∧ l.length ≤ cap ∧ cap ≤ maxLen ∧ (∀ j u, (l.flatMap cellsK)[j]? = some u → w.cell? ⟨g, j, none⟩ = some u) ∧ ∀ j, w.frozen? ⟨g, j, none⟩ = false := by
  rcases h.2 with ⟨_, h0⟩ | ⟨g, cap, cur, hv, hB, hg, hn, hm, hs, ht⟩
  · omega
  · refine ⟨g, cap, hv, hB, hn, hm, fun j u hj => ?_, fun j => by simp [World.frozen?, hg]⟩
    rw [cell_of_row w g j _ _ (0, 0) hg]
    rw [← ht] at hj
    have hlt := (List.getElem?_eq_some_iff.1 hj).1
    rw [List.length_take] at hlt
    rw [List.getElem?_take_of_lt (by omega)] at hj
    simpa using hj
set_option maxHeartbeats 8000000 in
theorem withK_any (v : Value) (l : List Kd) (x : Kd) (hl : l.length ≤ 90000) (hr : Sl.rises Sl.shK l = true) (w : World) (hv : SlK w v l) :
    Calls Try.prog 64 #[shpK, v, aggK x] w (OwnK (Sl.putL Sl.shK l x) w) := by
  have HFD := Lib.hid (fun W (hW : Below w.heap.size w W) => findK_any v l (by omega) (Sl.shK.key x) W (hv.below hW) hr)
  have HCL := Lib.hid (fun W (hW : Below w.heap.size w W) => cloneK_any v l (by omega) W (hv.below hW))
  have HK := Lib.hid (fun W => keyK_any x W)
  have hple := Sl.place_le Sl.shK l (Sl.shK.key x)
  have hth := Sl.there_at Sl.shK l (Sl.shK.key x)
  have HPT : Hid (Sl.putL Sl.shK l x = if Sl.there Sl.shK l (Sl.shK.key x) then l.take (Sl.place Sl.shK l (Sl.shK.key x)) ++ x :: l.drop (Sl.place Sl.shK l (Sl.shK.key x) + 1) else l.take (Sl.place Sl.shK l (Sl.shK.key x)) ++ x :: l.drop (Sl.place Sl.shK l (Sl.shK.key x))) := rfl
  have HIN := Lib.hid (fun B vb vc v T W hv hB hvb hne => insertK_any B vb vc (Sl.place Sl.shK l (Sl.shK.key x)) v l x T W hple (by omega) hv hB hvb hne)
  generalize Sl.putL Sl.shK l x = L at HPT ⊢
  obtain ⟨a, b, o, c, rfl, ha, hx⟩ := hv
  clear ha hx hr
  generalize Sl.place Sl.shK l (Sl.shK.key x) = p at *
  generalize Sl.there Sl.shK l (Sl.shK.key x) = th at *
  unfold shpK aggK at *
  have hF : Hid (((w.alloc (.cells #[.func (.func 111) #[] #[], .func (.func 113) #[] #[], .func (.func 114) #[] #[], .nilFunc] 124)).alloc (.cells #[.string (str x.key), .int .u32 x.page] 52)).drew.cell? ⟨w.heap.size, 0, none⟩ = some (.func (.func 111) #[] #[]) ∧ ((w.alloc (.cells #[.func (.func 111) #[] #[], .func (.func 113) #[] #[], .func (.func 114) #[] #[], .nilFunc] 124)).alloc (.cells #[.string (str x.key), .int .u32 x.page] 52)).drew.cell? ⟨w.heap.size, 1, none⟩ = some (.func (.func 113) #[] #[]) ∧ ((w.alloc (.cells #[.func (.func 111) #[] #[], .func (.func 113) #[] #[], .func (.func 114) #[] #[], .nilFunc] 124)).alloc (.cells #[.string (str x.key), .int .u32 x.page] 52)).drew.cell? ⟨w.heap.size, 2, none⟩ = some (.func (.func 114) #[] #[]) ∧ ((w.alloc (.cells #[.func (.func 111) #[] #[], .func (.func 113) #[] #[], .func (.func 114) #[] #[], .nilFunc] 124)).alloc (.cells #[.string (str x.key), .int .u32 x.page] 52)).drew.cell? ⟨w.heap.size, 3, none⟩ = some (.nilFunc) ∧ ((w.alloc (.cells #[.func (.func 111) #[] #[], .func (.func 113) #[] #[], .func (.func 114) #[] #[], .nilFunc] 124)).alloc (.cells #[.string (str x.key), .int .u32 x.page] 52)).drew.cell? ⟨w.heap.size + 1, 0, none⟩ = some (.string (str x.key)) ∧ ((w.alloc (.cells #[.func (.func 111) #[] #[], .func (.func 113) #[] #[], .func (.func 114) #[] #[], .nilFunc] 124)).alloc (.cells #[.string (str x.key), .int .u32 x.page] 52)).drew.cell? ⟨w.heap.size + 1, 1, none⟩ = some (.int .u32 x.page) ∧ Below w.heap.size w ((w.alloc (.cells #[.func (.func 111) #[] #[], .func (.func 113) #[] #[], .func (.func 114) #[] #[], .nilFunc] 124)).alloc (.cells #[.string (str x.key), .int .u32 x.page] 52)).drew) :=
    ⟨box0 w _ _ _ _ 0, box0 w _ _ _ _ 1, box0 w _ _ _ _ 2, box0 w _ _ _ _ 3, box1 w _ _ _ _ 0, box1 w _ _ _ _ 1, (boxB w _ _).drew⟩
  have HPL := Lib.hid hple
  have HTH := Lib.hid hth
  clear hple hth
  cases th with
  | true =>
    obtain ⟨y, hy, _, hpl⟩ := HTH.out rfl
    have HL : Hid (L = l.take p ++ x :: l.drop (p + 1)) := HPT.out
    have HY := Lib.hid hy
    have HLP := Lib.hid hpl
    clear HTH HPT hy hpl
    go_enter Try.func64, Try.ntmps64
    go_wp2_with fail
    go_region_held3 (fun w' => w'.cell? ⟨w.heap.size, 0, none⟩ = some (.func (.func 111) #[] #[]) ∧ w'.cell? ⟨w.heap.size, 1, none⟩ = some (.func (.func 113) #[] #[]) ∧ w'.cell? ⟨w.heap.size, 2, none⟩ = some (.func (.func 114) #[] #[]) ∧ w'.cell? ⟨w.heap.size, 3, none⟩ = some (.nilFunc) ∧ w'.cell? ⟨w.heap.size + 1, 0, none⟩ = some (.string (str x.key)) ∧ w'.cell? ⟨w.heap.size + 1, 1, none⟩ = some (.int .u32 x.page) ∧ Below w.heap.size w w')
      ((first | assumption | exact step6 (Nat.le_refl _) ‹_› hb | exact hF.out))
      (first
      | (go_at_call 109; (refine (HFD.out _ (last6 (by assumption))).mono ?_); rintro e w2 ⟨rfl, hb⟩)
      | (go_at_call 114; refine (HK.out _).mono ?_; rintro e w1 ⟨rfl, hb⟩))
    rename_i hS
    have HS := Lib.hid hS
    clear hS
    have HLS := Lib.hid (last6 HS.out)
    go_wp2_with (go_at_call 96; (refine (HCL.out _ HLS.out).mono ?_))
    rintro e w5 ⟨v5, rfl, hr5, hb5⟩
    have HS5 := Lib.hid (step6 (Nat.le_refl _) HS.out hb5)
    obtain ⟨g, cap, rfl, hg, hnc, hcm, hcell, hfr⟩ := row_someK hr5 (by have := HLP.out; omega)
    have HR5 := Lib.hid (hr5.base HLS.out.size)
    have HGB := Lib.hid (Nat.le_trans HLS.out.size hg)
    obtain ⟨_, _, _, _, x0, x1, _⟩ := HS5.out
    have hpl := HLP.out
    have hpi : (p : Int) < (l.length : Int) := by omega
    have ck0 := hcell (p * 2 + 0) _ (flat_at cellsK 2 cellsK_len l p 0 y HY.out (by decide))
    have ck1 := hcell (p * 2 + 1) _ (flat_at cellsK 2 cellsK_len l p 1 y HY.out (by decide))
    rw [Nat.add_zero] at ck0
    have HFRZ := Lib.hid hfr
    clear hcell hr5 hg hnc hcm hfr
    have fz0 := HFRZ.out (p * 2)
    have fz1 := HFRZ.out (p * 2 + 1)
    go_wp2
    go_ret
    have hlen : (l.take p ++ x :: l.drop (p + 1)).length = l.length := by have := HLP.out; simp only [List.length_append, List.length_take, List.length_cons, List.length_drop]; omega
    have hst := ((HR5.out.stored (p * 2) (.string (str x.key))).1.stored (p * 2 + 1) (.int .u32 x.page)).1
    rw [flat_setK l p x HLP.out] at hst
    refine ⟨_, rfl, ?_, ?_⟩
    · rw [HL.out]
      show World.ownsRow _ _ _ _ _ _ _
      rw [hlen]
      exact hst
    · exact ((last6 HS5.out).setCell HGB.out _).setCell HGB.out _
  | false =>
    have HL : Hid (L = l.take p ++ x :: l.drop p) := HPT.out
    clear HTH HPT
    go_enter Try.func64, Try.ntmps64
    go_wp2_with fail
    go_region_held3 (fun w' => w'.cell? ⟨w.heap.size, 0, none⟩ = some (.func (.func 111) #[] #[]) ∧ w'.cell? ⟨w.heap.size, 1, none⟩ = some (.func (.func 113) #[] #[]) ∧ w'.cell? ⟨w.heap.size, 2, none⟩ = some (.func (.func 114) #[] #[]) ∧ w'.cell? ⟨w.heap.size, 3, none⟩ = some (.nilFunc) ∧ w'.cell? ⟨w.heap.size + 1, 0, none⟩ = some (.string (str x.key)) ∧ w'.cell? ⟨w.heap.size + 1, 1, none⟩ = some (.int .u32 x.page) ∧ Below w.heap.size w w')
      ((first | assumption | exact step6 (Nat.le_refl _) ‹_› hb | exact hF.out))
      (first
      | (go_at_call 109; (refine (HFD.out _ (last6 (by assumption))).mono ?_); rintro e w2 ⟨rfl, hb⟩)
      | (go_at_call 114; refine (HK.out _).mono ?_; rintro e w1 ⟨rfl, hb⟩))
    rename_i hS
    have HS := Lib.hid hS
    clear hS
    have HLS := Lib.hid (last6 HS.out)
    go_wp2_with (first
      | (go_at_call 110; (refine (HIN.out w.heap.size w5.heap.size 1 (.slice a5 n5 c5) _ _ (HRI.out _) (HBI.out _) (heap_alloc_new w5 _) HNE.out).mono ?_); rintro e w6 ⟨v6, rfl, hr6, hb6⟩)
      | (go_at_call 96; (refine (HCL.out _ HLS.out).mono ?_); rintro e w5 ⟨v5, rfl, hr5, hb5⟩; have HS5 := Lib.hid (step6 (Nat.le_refl _) HS.out hb5); have HB5 := Lib.hid (last6 HS5.out); obtain ⟨a5, n5, c5, ha5, hc5, hn5⟩ := hr5.cap; have HR5 := Lib.hid (hr5.base HLS.out.size); have HNE : Hid ((Value.slice a5 n5 c5).ownBlock ≠ some w5.heap.size) := (fun h => Nat.lt_irrefl _ (hr5.lo _ h)); have HRI := Lib.hid (fun o => HR5.out.below ((Below.refl w5.heap.size w5).alloc (Nat.le_refl _) o)); have HBI := Lib.hid (fun (o : Obj) => Nat.le_trans HB5.out.size ((Below.refl w5.heap.size w5).alloc (Nat.le_refl _) o).size); obtain ⟨_, _, _, _, x0, x1, _⟩ := HS5.out; clear hr5 hb5))
    go_ret
    refine ⟨v6, rfl, ?_, ?_⟩
    · rw [HL.out]; exact hr6
    · exact HB5.out.trans (((Below.refl _ _).alloc HB5.out.size _).trans hb6)
end Go.Proofs.Ytpkoehnjladpoaa
/- The contract of a node's Put of a cell (Insert of a kid), at its own sort. -/
namespace Go.Proofs.Ytpkoehnjladpoaa
open Go.RowKit
open Sl (Cl Kd Nd Rn)
set_option maxHeartbeats 4000000 in
theorem putK_any (v : Value) (n : Nd) (x : Kd) (w : World) (hv : NdV w v n) (hlf : n.leaf = false) (hl : n.ks.length ≤ 90000) (hr : Sl.rises Sl.shK n.ks = true) :
    Calls Try.prog 23 #[v, aggK x] w (RetN ⟨false, [], Sl.putL Sl.shK n.ks x⟩ w) := by
  obtain ⟨vc, vk, rfl, hc, hcc, hk, hkk⟩ := hv
  have HWT := Lib.hid (fun W (hW : Below w.heap.size w W) => withK_any vk n.ks x hl hr W (hk.below hW))
  have HLV := Lib.hid (fun W => kids_any W)
  rw [hlf]
  unfold ndV
  unfold shpK at HLV HWT
  obtain ⟨a, m, c, _, _, _⟩ := hcc
  obtain ⟨a', m', c', _, _, _⟩ := hkk
  clear hc hk hl hr
  generalize n.ks = l at *
  unfold aggK at *
  have hF : Hid (∀ x1 x2, (((w.alloc (.cells #[.bool false, x1, x2] 46)).alloc (.cells #[.string (str x.key), .int .u32 x.page] 52)).alloc (.cells #[.bool false, .slice none 0 0, .slice none 0 0] 46)).drew.cell? ⟨w.heap.size, 2, none⟩ = some x2 ∧ (((w.alloc (.cells #[.bool false, x1, x2] 46)).alloc (.cells #[.string (str x.key), .int .u32 x.page] 52)).alloc (.cells #[.bool false, .slice none 0 0, .slice none 0 0] 46)).drew.cell? ⟨w.heap.size + 1, 0, none⟩ = some (.string (str x.key)) ∧ (((w.alloc (.cells #[.bool false, x1, x2] 46)).alloc (.cells #[.string (str x.key), .int .u32 x.page] 52)).alloc (.cells #[.bool false, .slice none 0 0, .slice none 0 0] 46)).drew.cell? ⟨w.heap.size + 1, 1, none⟩ = some (.int .u32 x.page) ∧ Kp w.heap.size w (row1 (w.heap.size + 1 + 1) zn) (((w.alloc (.cells #[.bool false, x1, x2] 46)).alloc (.cells #[.string (str x.key), .int .u32 x.page] 52)).alloc (.cells #[.bool false, .slice none 0 0, .slice none 0 0] 46)).drew) := fun x1 x2 => by
    have hS : ((w.alloc (.cells #[.bool false, x1, x2] 46)).alloc (.cells #[.string (str x.key), .int .u32 x.page] 52)).heap.size = w.heap.size + 1 + 1 := by simp
    have hb := alloc_below1 ((w.alloc (.cells #[.bool false, x1, x2] 46)).alloc (.cells #[.string (str x.key), .int .u32 x.page] 52)) (.cells #[.bool false, .slice none 0 0, .slice none 0 0] 46)
    have hk := Kp.laid (boxB w (.cells #[.bool false, x1, x2] 46) (.cells #[.string (str x.key), .int .u32 x.page] 52)) (by rw [hS]; omega) #[.bool false, .slice none 0 0, .slice none 0 0] 46
    rw [hS] at hb hk
    exact ⟨(hb.cell (p := ⟨w.heap.size, 2, none⟩) (show w.heap.size < w.heap.size + 1 + 1 by omega)).trans (box0 w _ _ _ _ 2), (hb.cell (p := ⟨w.heap.size + 1, 0, none⟩) (show w.heap.size + 1 < w.heap.size + 1 + 1 by omega)).trans (box1 w _ _ _ _ 0), (hb.cell (p := ⟨w.heap.size + 1, 1, none⟩) (show w.heap.size + 1 < w.heap.size + 1 + 1 by omega)).trans (box1 w _ _ _ _ 1), hk.drew⟩
  go_enter Try.func23, Try.ntmps23
  go_wp2_with fail
  go_region_held3 (fun w' => w'.cell? ⟨w.heap.size, 2, none⟩ = some (.slice a' m' c') ∧ w'.cell? ⟨w.heap.size + 1, 0, none⟩ = some (.string (str x.key)) ∧ w'.cell? ⟨w.heap.size + 1, 1, none⟩ = some (.int .u32 x.page) ∧ w'.cell? ⟨w.heap.size + 1 + 1, 0, none⟩ = some (cv w' (w.heap.size + 1 + 1) 0) ∧ w'.cell? ⟨w.heap.size + 1 + 1, 1, none⟩ = some (cv w' (w.heap.size + 1 + 1) 1) ∧ w'.cell? ⟨w.heap.size + 1 + 1, 2, none⟩ = some (cv w' (w.heap.size + 1 + 1) 2) ∧ w'.frozen? ⟨w.heap.size + 1 + 1, 0, none⟩ = false ∧ w'.frozen? ⟨w.heap.size + 1 + 1, 1, none⟩ = false ∧ w'.frozen? ⟨w.heap.size + 1 + 1, 2, none⟩ = false ∧ Below w.heap.size w w')
    ((first | assumption | exact startP3 (hF.out _ _) | exact stepP3 (Nat.le_refl _) ‹_› hb | exact stepP3s (stepP3s (stepP3s ‹_› (by omega) (by omega) (by omega) (by omega)) (by omega) (by omega) (by omega) (by omega)) (by omega) (by omega) (by omega) (by omega)))
    (first
    | (go_at_call 63; (with_reducible refine (HL5.out _).mono ?_); rintro e w6 ⟨rfl, hb⟩; have HZJ := Lib.hid (z3P3 (by assumption) hb); have HR6 := Lib.hid (HR5.out.below hb))
    | (go_at_call 64; (refine (HWT.out _ (lastP3 (by assumption))).mono ?_); rintro e w5 ⟨v5, rfl, hr5, hb⟩; obtain ⟨a5, n5, c5, ha5, hc5, hn5⟩ := hr5.cap; have HCP := Lib.hid (Cap.mk a5 n5 c5 ha5 hc5 hn5); have HQ : Hid (w.heap.size + 1 + 1 < _) := ltP3 (by assumption); have HR5 := Lib.hid (hr5.base (Nat.succ_le_of_lt HQ.out)); have HL5 := Lib.hid (fun W => branch_any (.slice a5 n5 c5) HCP.out W); unfold ndV at HL5; clear hr5)
    | (go_at_call 65; (with_reducible refine (HLV.out _).mono ?_); rintro e w4 ⟨rfl, hb⟩))
  rename_i hS
  have HB := Lib.hid (lastP3 hS)
  clear hS
  go_wp2
  obtain ⟨z0, z1, z2⟩ := HZJ.out
  refine bodyPost_ret_by (v := ndV false (.slice none 0 0) (.slice a5 n5 c5)) ?_ rfl ?_
  · simp [ndV, results, Try.results23, go_sem, z0, z1, z2]
  · have hq := Nat.lt_succ_self (w.heap.size + 1 + 1)
    exact ⟨_, rfl, ⟨_, _, rfl, SlC.nil _, cap_nil, (((HR6.out.set hq _).set hq _).set hq _).sl, HCP.out⟩, HB.out⟩
end Go.Proofs.Ytpkoehnjladpoaa
/- The contract of own: a node that shares nothing with this one, at one sort. -/
namespace Go.Proofs.Ytpkoehnjladpoaa
open Go.RowKit
open Sl (Cl Kd Nd Rn)
inductive OwnNC (l : List Cl) (w : World) (e : Ending) (w' : World) : Prop
  | mk (vc : Value) (he : e = .returned (ndV true vc (.slice none 0 0))) (hr : RowC w' w.heap.size vc l) (hb : Below w.heap.size w w')
theorem ownC_any (v : Value) (n : Nd) (w : World) (hv : NdV w v n) (hlf : n.leaf = true) (hl : n.cs.length ≤ 100000) :
    Calls Try.prog 55 #[v] w (OwnNC n.cs w) := by
  obtain ⟨vc, vk, rfl, hc, hcc, hk, hkk⟩ := hv
  have HCL := Lib.hid (fun W (hW : Below w.heap.size w W) => cloneC_any vc n.cs hl W (hc.below hW))
  rw [hlf]
  unfold ndV
  obtain ⟨a, m, c, _, _, _⟩ := hcc
  obtain ⟨a', m', c', _, _, _⟩ := hkk
  clear hc hk hl
  generalize n.cs = l at *
  have HST : Hid (∀ x1 x2, Kp w.heap.size w (row1 (w.heap.size + 1) zn) ((w.alloc (.cells #[.bool true, x1, x2] 46)).alloc (.cells #[.bool false, .slice none 0 0, .slice none 0 0] 46)) ∧ w.heap.size + 1 < ((w.alloc (.cells #[.bool true, x1, x2] 46)).alloc (.cells #[.bool false, .slice none 0 0, .slice none 0 0] 46)).heap.size) :=
    fun x1 x2 => ⟨⟨(startK w _ _ _ _).cell, (startK w _ _ _ _).froz, boxB w _ _⟩, by simp⟩
  go_enter Try.func55, Try.ntmps55
  go_wp2_with (first
    | (go_at_call 60; (with_reducible refine (HL5.out _).mono ?_); rintro e w6 ⟨rfl, hb6⟩; have HS6 := Lib.hid (HS5.out.step (Nat.le_refl _) hb6); have HR6 := Lib.hid (HR5.out.below hb6); clear hb6; obtain ⟨⟨z0, z1, z2⟩, f0, f1, f2⟩ := HS6.out.zn)
    | (go_at_call 95; (refine (HCL.out _ (HST.out _ _).1.below).mono ?_); rintro e w5 ⟨v5, rfl, hr5, hb5⟩; have HS5 := Lib.hid ((HST.out _ _).1.step (Nat.le_refl _) hb5); have HQ5 := Lib.hid (HST.out (.slice a m c) (.slice a' m' c')).2; obtain ⟨a5, n5, c5, ha5, hc5, hn5⟩ := hr5.cap; have HR5 := Lib.hid hr5; have HL5 := Lib.hid (fun W => leaf_any (.slice a5 n5 c5) ⟨a5, n5, c5, ha5, hc5, hn5⟩ W); unfold ndV at HL5; clear hr5 hb5))
  have hq := HQ5.out
  have hB := (HST.out (.slice a m c) (.slice a' m' c')).1.below.size
  refine bodyPost_ret_by (v := ndV true (.slice a5 n5 c5) (.slice none 0 0)) ?_ rfl ⟨.slice a5 n5 c5, rfl, ?_, ?_⟩
  · simp [ndV, results, Try.results55, go_sem, z0, z1, z2]
  · exact ((((HR6.out.set hq _).set hq _).set hq _).base hB)
  · exact below_set3 HS6.out.below (Nat.le_succ _)
end Go.Proofs.Ytpkoehnjladpoaa
/- The contract of own: a node that shares nothing with this one, at one sort. -/
namespace Go.Proofs.Ytpkoehnjladpoaa
open Go.RowKit
open Sl (Cl Kd Nd Rn)
inductive OwnNK (l : List Kd) (w : World) (e : Ending) (w' : World) : Prop
  | mk (vc : Value) (he : e = .returned (ndV false (.slice none 0 0) vc)) (hr : RowK w' w.heap.size vc l) (hb : Below w.heap.size w w')
theorem ownK_any (v : Value) (n : Nd) (w : World) (hv : NdV w v n) (hlf : n.leaf = false) (hl : n.ks.length ≤ 100000) :
    Calls Try.prog 55 #[v] w (OwnNK n.ks w) := by
  obtain ⟨vc, vk, rfl, hc, hcc, hk, hkk⟩ := hv
  have HCL := Lib.hid (fun W (hW : Below w.heap.size w W) => cloneK_any vk n.ks hl W (hk.below hW))
  rw [hlf]
  unfold ndV
  obtain ⟨a, m, c, _, _, _⟩ := hcc
  obtain ⟨a', m', c', _, _, _⟩ := hkk
  clear hc hk hl
  generalize n.ks = l at *
  have HST : Hid (∀ x1 x2, Kp w.heap.size w (row1 (w.heap.size + 1) zn) ((w.alloc (.cells #[.bool false, x1, x2] 46)).alloc (.cells #[.bool false, .slice none 0 0, .slice none 0 0] 46)) ∧ w.heap.size + 1 < ((w.alloc (.cells #[.bool false, x1, x2] 46)).alloc (.cells #[.bool false, .slice none 0 0, .slice none 0 0] 46)).heap.size) :=
    fun x1 x2 => ⟨⟨(startK w _ _ _ _).cell, (startK w _ _ _ _).froz, boxB w _ _⟩, by simp⟩
  go_enter Try.func55, Try.ntmps55
  go_wp2_with (first
    | (go_at_call 63; (with_reducible refine (HL5.out _).mono ?_); rintro e w6 ⟨rfl, hb6⟩; have HS6 := Lib.hid (HS5.out.step (Nat.le_refl _) hb6); have HR6 := Lib.hid (HR5.out.below hb6); clear hb6; obtain ⟨⟨z0, z1, z2⟩, f0, f1, f2⟩ := HS6.out.zn)
    | (go_at_call 96; (refine (HCL.out _ (HST.out _ _).1.below).mono ?_); rintro e w5 ⟨v5, rfl, hr5, hb5⟩; have HS5 := Lib.hid ((HST.out _ _).1.step (Nat.le_refl _) hb5); have HQ5 := Lib.hid (HST.out (.slice a m c) (.slice a' m' c')).2; obtain ⟨a5, n5, c5, ha5, hc5, hn5⟩ := hr5.cap; have HR5 := Lib.hid hr5; have HL5 := Lib.hid (fun W => branch_any (.slice a5 n5 c5) ⟨a5, n5, c5, ha5, hc5, hn5⟩ W); unfold ndV at HL5; clear hr5 hb5))
  have hq := HQ5.out
  have hB := (HST.out (.slice a m c) (.slice a' m' c')).1.below.size
  refine bodyPost_ret_by (v := ndV false (.slice none 0 0) (.slice a5 n5 c5)) ?_ rfl ⟨.slice a5 n5 c5, rfl, ?_, ?_⟩
  · simp [ndV, results, Try.results55, go_sem, z0, z1, z2]
  · exact ((((HR6.out.set hq _).set hq _).set hq _).base hB)
  · exact below_set3 HS6.out.below (Nat.le_succ _)
end Go.Proofs.Ytpkoehnjladpoaa
/- Twenty cells that stay as they were. -/
namespace Go.Proofs.Ytpkoehnjladpoaa
open Go.RowKit
theorem step20 {w w1 w2 : World} {B : Nat} {p0 p1 p2 p3 p4 p5 p6 p7 p8 p9 p10 p11 p12 p13 p14 p15 p16 p17 p18 p19 : Addr} {x0 x1 x2 x3 x4 x5 x6 x7 x8 x9 x10 x11 x12 x13 x14 x15 x16 x17 x18 x19 : Value} (hB : B ≤ w.heap.size) (H : w1.cell? p0 = some x0 ∧ w1.cell? p1 = some x1 ∧ w1.cell? p2 = some x2 ∧ w1.cell? p3 = some x3 ∧ w1.cell? p4 = some x4 ∧ w1.cell? p5 = some x5 ∧ w1.cell? p6 = some x6 ∧ w1.cell? p7 = some x7 ∧ w1.cell? p8 = some x8 ∧ w1.cell? p9 = some x9 ∧ w1.cell? p10 = some x10 ∧ w1.cell? p11 = some x11 ∧ w1.cell? p12 = some x12 ∧ w1.cell? p13 = some x13 ∧ w1.cell? p14 = some x14 ∧ w1.cell? p15 = some x15 ∧ w1.cell? p16 = some x16 ∧ w1.cell? p17 = some x17 ∧ w1.cell? p18 = some x18 ∧ w1.cell? p19 = some x19 ∧ Below B w w1) (hb : Below w1.heap.size w1 w2) : w2.cell? p0 = some x0 ∧ w2.cell? p1 = some x1 ∧ w2.cell? p2 = some x2 ∧ w2.cell? p3 = some x3 ∧ w2.cell? p4 = some x4 ∧ w2.cell? p5 = some x5 ∧ w2.cell? p6 = some x6 ∧ w2.cell? p7 = some x7 ∧ w2.cell? p8 = some x8 ∧ w2.cell? p9 = some x9 ∧ w2.cell? p10 = some x10 ∧ w2.cell? p11 = some x11 ∧ w2.cell? p12 = some x12 ∧ w2.cell? p13 = some x13 ∧ w2.cell? p14 = some x14 ∧ w2.cell? p15 = some x15 ∧ w2.cell? p16 = some x16 ∧ w2.cell? p17 = some x17 ∧ w2.cell? p18 = some x18 ∧ w2.cell? p19 = some x19 ∧ Below B w w2 := by
  obtain ⟨h0, h1, h2, h3, h4, h5, h6, h7, h8, h9, h10, h11, h12, h13, h14, h15, h16, h17, h18, h19, hq⟩ := H
  exact ⟨(hb.cell (p := p0) (World.block_lt_of_cell? _ _ h0)).trans h0, (hb.cell (p := p1) (World.block_lt_of_cell? _ _ h1)).trans h1, (hb.cell (p := p2) (World.block_lt_of_cell? _ _ h2)).trans h2, (hb.cell (p := p3) (World.block_lt_of_cell? _ _ h3)).trans h3, (hb.cell (p := p4) (World.block_lt_of_cell? _ _ h4)).trans h4, (hb.cell (p := p5) (World.block_lt_of_cell? _ _ h5)).trans h5, (hb.cell (p := p6) (World.block_lt_of_cell? _ _ h6)).trans h6, (hb.cell (p := p7) (World.block_lt_of_cell? _ _ h7)).trans h7, (hb.cell (p := p8) (World.block_lt_of_cell? _ _ h8)).trans h8, (hb.cell (p := p9) (World.block_lt_of_cell? _ _ h9)).trans h9, (hb.cell (p := p10) (World.block_lt_of_cell? _ _ h10)).trans h10, (hb.cell (p := p11) (World.block_lt_of_cell? _ _ h11)).trans h11, (hb.cell (p := p12) (World.block_lt_of_cell? _ _ h12)).trans h12, (hb.cell (p := p13) (World.block_lt_of_cell? _ _ h13)).trans h13, (hb.cell (p := p14) (World.block_lt_of_cell? _ _ h14)).trans h14, (hb.cell (p := p15) (World.block_lt_of_cell? _ _ h15)).trans h15, (hb.cell (p := p16) (World.block_lt_of_cell? _ _ h16)).trans h16, (hb.cell (p := p17) (World.block_lt_of_cell? _ _ h17)).trans h17, (hb.cell (p := p18) (World.block_lt_of_cell? _ _ h18)).trans h18, (hb.cell (p := p19) (World.block_lt_of_cell? _ _ h19)).trans h19, hq.trans (hb.mono (Nat.le_trans hB hq.size))⟩
theorem last20 {w w1 : World} {B : Nat} {p0 p1 p2 p3 p4 p5 p6 p7 p8 p9 p10 p11 p12 p13 p14 p15 p16 p17 p18 p19 : Addr} {x0 x1 x2 x3 x4 x5 x6 x7 x8 x9 x10 x11 x12 x13 x14 x15 x16 x17 x18 x19 : Value} (H : w1.cell? p0 = some x0 ∧ w1.cell? p1 = some x1 ∧ w1.cell? p2 = some x2 ∧ w1.cell? p3 = some x3 ∧ w1.cell? p4 = some x4 ∧ w1.cell? p5 = some x5 ∧ w1.cell? p6 = some x6 ∧ w1.cell? p7 = some x7 ∧ w1.cell? p8 = some x8 ∧ w1.cell? p9 = some x9 ∧ w1.cell? p10 = some x10 ∧ w1.cell? p11 = some x11 ∧ w1.cell? p12 = some x12 ∧ w1.cell? p13 = some x13 ∧ w1.cell? p14 = some x14 ∧ w1.cell? p15 = some x15 ∧ w1.cell? p16 = some x16 ∧ w1.cell? p17 = some x17 ∧ w1.cell? p18 = some x18 ∧ w1.cell? p19 = some x19 ∧ Below B w w1) : Below B w w1 := H.2.2.2.2.2.2.2.2.2.2.2.2.2.2.2.2.2.2.2.2
theorem Kp.five {B : Nat} {w0 w : World} {g : Nat} {x0 x1 x2 x3 x4 : Value} (h : Kp B w0 (row1 g #[x0, x1, x2, x3, x4]) w) : w.cell? ⟨g, 0, none⟩ = some x0 ∧ w.cell? ⟨g, 1, none⟩ = some x1 ∧ w.cell? ⟨g, 2, none⟩ = some x2 ∧ w.cell? ⟨g, 3, none⟩ = some x3 ∧ w.cell? ⟨g, 4, none⟩ = some x4 := by
  have hm : ∀ i, i < 5 → ((⟨g, i, none⟩ : Addr), (#[x0, x1, x2, x3, x4] : Array Value)[i]!) ∈ row1 g #[x0, x1, x2, x3, x4] := fun i hi => List.mem_map.2 ⟨i, List.mem_range.2 hi, rfl⟩
  exact ⟨h.cell _ (hm 0 (by decide)), h.cell _ (hm 1 (by decide)), h.cell _ (hm 2 (by decide)), h.cell _ (hm 3 (by decide)), h.cell _ (hm 4 (by decide))⟩
/-- One box more. -/
theorem Kp.more {B : Nat} {w0 w : World} {L : List (Addr × Value)} (h : Kp B w0 L w) (hB : B ≤ w0.heap.size) (A : Array Value) (T : TypeId) : Kp B w0 (L ++ row1 w.heap.size A) (w.alloc (.cells A T)) :=
  (h.step hB ((Below.refl _ _).alloc (Nat.le_refl _) _)).both (Kp.laid h.below (Nat.le_trans hB h.below.size) A T)
end Go.Proofs.Ytpkoehnjladpoaa
