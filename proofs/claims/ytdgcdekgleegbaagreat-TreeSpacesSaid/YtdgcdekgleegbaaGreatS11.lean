/- Texts of one seat, merged. -/
import Derived.Test.YtdgcdekgleegbaaGreatS10
import Derived.Deep.DeepCutAuto
import Derived.Test.YtdgcdekgleegbaaGreatS05
import Derived.Test.YtdgcdekgleegbaaGreatS06
set_option maxRecDepth 100000
set_option maxHeartbeats 4000000
set_option linter.unusedVariables false
/- The contract of Find, at a leaf's cells, over rising keys. -/
namespace Go.Proofs.YtdgcdekgleegbaaGreat
open Go.RowKit
open Sl (Cl Kd)
theorem box4 {w w1 : World} {x0 x1 x2 x3 : Value} {T : TypeId} (hb : Below (w.alloc (.cells #[x0, x1, x2, x3] T)).heap.size (w.alloc (.cells #[x0, x1, x2, x3] T)) w1) : Below w.heap.size w w1 :=
  below_step ((Below.refl _ _).alloc (Nat.le_refl _) _) hb
theorem compare_any (a b : List UInt8) (w : World) :
    Calls Tryz.prog 118 #[.string (str a), .string (str b)] w fun e w' => e = .returned (.int .i64 (Lib.compareBytes a b)) ∧ w = w' :=
  (Tryz.strings_Compare (str a) (str b) w).mono fun _ _ ⟨h1, h2⟩ => ⟨h1, h2.symm⟩
theorem findFnC_any (x : Cl) (key : List UInt8) (g : Nat) (w : World) (hb : BxC w g) :
    Calls Tryz.prog 117 #[aggC x, .string (str key), .pointer (some ⟨g, 0, none⟩)] w fun e w' => e = .returned (.int .i64 (Lib.compareBytes (Sl.shC.key x) key)) ∧ Below w.heap.size w w' := by
  have HK := Lib.hid (fun W => keyC2_any x W)
  have HA := Lib.hid (fun o1 => hb.alloc o1)
  have q0 := fun o1 => (HA.out o1).c0
  have q1 := fun o1 => (HA.out o1).c1
  have q2 := fun o1 => (HA.out o1).c2
  have q3 := fun o1 => (HA.out o1).c3
  revert HK
  generalize Sl.shC.key x = kx
  intro HK
  unfold shpC aggC at HK
  unfold aggC
  go_enter Tryz.func117, Tryz.ntmps117
  go_wp2_with (first
    | (go_at_call 119; refine (HK.out _).mono ?_; rintro e w1 ⟨rfl, hb1⟩)
    | (go_at_call 118; refine (compare_any _ _ _).mono ?_; rintro e w2 ⟨rfl, rfl⟩))
  go_ret
  exact ⟨rfl, below_step ((Below.refl _ _).alloc (Nat.le_refl _) _) hb1⟩
set_option maxHeartbeats 4000000 in
set_option maxRecDepth 100000 in
theorem bsfC_any (v : Value) (l : List Cl) (hll : l.length ≤ 100000) (key : List UInt8) (g : Nat) (w : World) (hv : SlC w v l) (hb : BxC w g) (hr : Sl.rises Sl.shC l = true) :
    Calls Tryz.prog 116 #[v, .string (str key), .func (.func 117) #[] #[.pointer (some ⟨g, 0, none⟩)]] w fun e w' => e = .returned (.tuple #[.int .i64 (Sl.place Sl.shC l key : Nat), .bool (Sl.there Sl.shC l key)]) ∧ Below w.heap.size w w' := by
  have HR := Lib.hid hr
  have HBX := Lib.hid hb
  obtain ⟨a, b, o, c, rfl, ha, hx⟩ := hv
  have HX := Lib.hid hx
  have HA := Lib.hid ha
  clear ha hx hr hb
  go_enter Tryz.func116, Tryz.ntmps116
  go_wp2
  go_loopg [9, 10] l.length (fun n i j wr => ∃ p q : Nat, p ≤ q ∧ q ≤ l.length ∧ n = q - p ∧ i = .int .i64 p ∧ j = .int .i64 q ∧ Hid (∀ m x, m < p → l[m]? = some x → Sl.less (Sl.shC.key x) key = true) ∧ Hid (∀ m x, q ≤ m → l[m]? = some x → Sl.less (Sl.shC.key x) key = false) ∧ Hid (Below w.heap.size w wr))
  case atStart => exact ⟨0, l.length, Nat.zero_le _, Nat.le_refl _, rfl, rfl, rfl, fun m x h => absurd h (Nat.not_lt_zero m), fun m x h hx => absurd (List.getElem?_eq_some_iff.1 hx).1 (Nat.not_lt.2 h), Below.refl _ _⟩
  case round =>
    obtain ⟨p, q, hpq, hql, rfl, rfl, rfl, HLO, HHI, HB⟩ := hrel
    by_cases hlt : p < q
    · obtain ⟨h, hh⟩ : ∃ h : Nat, h = (p + q) / 2 := ⟨_, rfl⟩
      obtain ⟨x, hx⟩ := take_some l h (by omega)
      have HXK := Lib.hid hx
      obtain ⟨e0, e1, e2, e3⟩ := HX.out h x hx
      have hblt : b < w.heap.size := World.block_lt_of_cell? _ _ e0
      have d0 := (HB.out.cell (p := ⟨b, o + h * 4, none⟩) hblt).trans e0
      have d1 := (HB.out.cell (p := ⟨b, o + h * 4 + 1, none⟩) hblt).trans e1
      have d2 := (HB.out.cell (p := ⟨b, o + h * 4 + 2, none⟩) hblt).trans e2
      have d3 := (HB.out.cell (p := ⟨b, o + h * 4 + 3, none⟩) hblt).trans e3
      have HBr := Lib.hid (HBX.out.below HB.out HBX.out.lt)
      obtain rfl : a = some ⟨b, o, none⟩ := by
        rcases HA.out with h' | h'
        · rw [h'] at hql; have : q ≤ 0 := hql; omega
        · exact h'
      have HC := Lib.hid (fun W (hW : BxC W g) => findFnC_any x key g W hW)
      unfold aggC at HC
      have hlo := Lib.hid (Sl.low_of Sl.shC l key HR.out h x hx)
      have hhi := Lib.hid (Sl.high_of Sl.shC l key HR.out h x hx)
      have hcl := Lib.hid (Sl.cmp_lt (Sl.shC.key x) key)
      have hcg := Lib.hid (Sl.cmp_ge (Sl.shC.key x) key)
      have hhE : ((p : Int) + q) / 2 = (h : Int) := by omega
      have hb1 : p ≤ h := by omega
      have hb2 : h < q := by omega
      have hb3 : h < l.length := by omega
      have hb4 : (h : Int) < l.length := by omega
      clear e0 e1 e2 e3 hx hh
      revert HC hlo hhi hcl hcg
      generalize Lib.compareBytes (Sl.shC.key x) key = cv
      generalize hls : Sl.less (Sl.shC.key x) key = ls
      have HLS := Lib.hid hls
      clear hls
      intro HC hlo hhi hcl hcg
      go_upto_region 5 with fail
      clear hhE
      cases ls
      · have hcv := hcg.out rfl
        clear hcl hcg
        go_wp2_with (go_at_call 117; refine (HC.out _ HBr.out).mono ?_; rintro e w4 ⟨rfl, hb5⟩)
        have HB4 : Hid (Below w.heap.size w w4) := HB.out.trans (hb5.mono HB.out.size)
        clear hb5
        go_roundg (h - p)
        case measure => omega
        case rel => exact ⟨p, h, by omega, by omega, rfl, rfl, rfl, HLO, hhi.out (by simp), HB4⟩
      · have hcv := hcl.out rfl
        clear hcl hcg
        go_wp2_with (go_at_call 117; refine (HC.out _ HBr.out).mono ?_; rintro e w4 ⟨rfl, hb5⟩)
        have HB4 : Hid (Below w.heap.size w w4) := HB.out.trans (hb5.mono HB.out.size)
        clear hb5
        go_roundg (q - (h + 1))
        case measure => omega
        case rel => exact ⟨h + 1, q, by omega, by omega, rfl, by go_num, rfl, hlo.out (by simp), HHI, HB4⟩
    · obtain rfl : p = q := by omega
      have HPL : Hid (Sl.place Sl.shC l key = p) := Sl.place_eq Sl.shC key l p hql HLO.out (fun x hx => HHI.out p x (Nat.le_refl _) hx)
      by_cases hn : p < l.length
      · obtain ⟨x, hx⟩ := take_some l p hn
        obtain ⟨e0, e1, e2, e3⟩ := HX.out p x hx
        have hblt : b < w.heap.size := World.block_lt_of_cell? _ _ e0
        have d0 := (HB.out.cell (p := ⟨b, o + p * 4, none⟩) hblt).trans e0
        have d1 := (HB.out.cell (p := ⟨b, o + p * 4 + 1, none⟩) hblt).trans e1
        have d2 := (HB.out.cell (p := ⟨b, o + p * 4 + 2, none⟩) hblt).trans e2
        have d3 := (HB.out.cell (p := ⟨b, o + p * 4 + 3, none⟩) hblt).trans e3
        have HBr := Lib.hid (HBX.out.below HB.out HBX.out.lt)
        obtain rfl : a = some ⟨b, o, none⟩ := by
          rcases HA.out with h' | h'
          · rw [h'] at hn; cases hn
          · exact h'
        have HC := Lib.hid (fun W (hW : BxC W g) => findFnC_any x key g W hW)
        unfold aggC at HC
        have HTH : Hid (Sl.there Sl.shC l key = (Lib.compareBytes (Sl.shC.key x) key == 0)) := (Sl.there_some Sl.shC l key x (by rw [HPL.out]; exact hx)).trans (Sl.cmp_zero _ _).symm
        have hn' : (p : Int) < l.length := by omega
        clear e0 e1 e2 e3 hx
        revert HC HTH
        generalize Lib.compareBytes (Sl.shC.key x) key = cv
        intro HC HTH
        go_wp2_with (go_at_call 117; refine (HC.out _ HBr.out).mono ?_; rintro e w4 ⟨rfl, hb5⟩)
        go_ret2
        exact ⟨by rw [HPL.out, HTH.out]; rfl, HB.out.trans (hb5.mono HB.out.size)⟩
      · have HTH : Hid (Sl.there Sl.shC l key = false) := Sl.there_none Sl.shC l key (by rw [HPL.out]; omega)
        have hn' : ¬ (p : Int) < l.length := by omega
        go_wp2
        go_ret2
        exact ⟨by rw [HPL.out, HTH.out]; rfl, HB.out⟩
set_option maxHeartbeats 1000000 in
theorem findC_any (v : Value) (l : List Cl) (hll : l.length ≤ 100000) (key : List UInt8) (w : World) (hv : SlC w v l) (hr : Sl.rises Sl.shC l = true) :
    Calls Tryz.prog 79 #[shpC, v, .string (str key)] w fun e w' => e = .returned (.tuple #[.int .i64 (Sl.place Sl.shC l key : Nat), .bool (Sl.there Sl.shC l key)]) ∧ Below w.heap.size w w' := by
  have hmf : ∀ (fn : Fn) (first cap : Array Value) (w : World), (Instr.makeFunc fn first cap).run Tryz.prog w = .ok (.func fn first cap) w := fun _ _ _ _ => rfl
  have HWh := Lib.hid (fun W => wholeC_any W)
  have HB0 := Lib.hid (BxC.new w)
  have HS := Lib.hid (fun W (hW : SlC W v l) (hb : BxC W w.heap.size) => bsfC_any v l hll key w.heap.size W hW hb hr)
  have HV := Lib.hid (fun W (hW : Below w.heap.size w W) => hv.below hW)
  have HW0 : Hid (Below w.heap.size w (w.alloc (.cells #[.func (.func 84) #[] #[], .func (.func 85) #[] #[], .func (.func 86) #[] #[], .func (.func 87) #[] #[]] 117))) := (Below.refl _ _).alloc (Nat.le_refl _) _
  clear hv hr
  revert HS
  generalize Sl.place Sl.shC l key = pl
  generalize Sl.there Sl.shC l key = th
  intro HS
  unfold shpC at HWh ⊢
  go_enter Tryz.func79, Tryz.ntmps79
  go_wp2_with (first
    | (go_at_call 89; refine (HWh.out _).mono ?_; rintro e w1 ⟨rfl, hb1⟩; have HB1 := Lib.hid (below_step HW0.out hb1); have HR1 := Lib.hid (HB0.out.below hb1 HB0.out.lt))
    | (go_at_call 116; refine (HS.out _ (HV.out _ HB1.out) HR1.out).mono ?_; rintro e w2 ⟨rfl, hb2⟩))
  go_ret2
  exact ⟨rfl, below_step HB1.out hb2⟩
end Go.Proofs.YtdgcdekgleegbaaGreat
/- What stands ahead of a key's place, at it and behind it; nothing of the program. -/
namespace Go.Proofs.YtdgcdekgleegbaaGreat
namespace Sl
variable {α : Type}
theorem place_low (S : Sh α) (k : List UInt8) : ∀ (l : List α) (m : Nat) (x : α), m < place S l k → l[m]? = some x → less (S.key x) k = true
  | [], m, x, h, _ => by unfold place at h; simp at h
  | y :: l, m, x, h, hx => by
    unfold place at h
    rw [List.takeWhile_cons] at h
    cases hy : less (S.key y) k
    · rw [hy] at h; simp at h
    · rw [hy, if_pos rfl, List.length_cons] at h
      cases m with
      | zero => simp at hx; subst hx; exact hy
      | succ m => exact place_low S k l m x (by unfold place; omega) (by simpa using hx)
theorem place_at (S : Sh α) (k : List UInt8) : ∀ (l : List α) (x : α), l[place S l k]? = some x → less (S.key x) k = false
  | [], x, h => by simp at h
  | y :: l, x, h => by
    unfold place at h
    rw [List.takeWhile_cons] at h
    cases hy : less (S.key y) k
    · rw [hy] at h; simp at h; subst h; exact hy
    · rw [hy, if_pos rfl, List.length_cons, List.getElem?_cons_succ] at h
      exact place_at S k l x h
theorem low_ne (x k : List UInt8) (h : less x k = true) : x ≠ k := fun e => by rw [e, less_self] at h; cases h
theorem place_high (S : Sh α) (l : List α) (k : List UInt8) (h : rises S l = true) (m : Nat) (x : α) (hm : place S l k < m) (hx : l[m]? = some x) : less (S.key x) k = false ∧ S.key x ≠ k := by
  have hlt := (List.getElem?_eq_some_iff.1 hx).1
  have hp : l[place S l k]? = some (l[place S l k]'(by omega)) := List.getElem?_eq_getElem _
  have h1 := place_at S k l _ hp
  refine ⟨high_of S l k h _ _ hp h1 m x (by omega) hx, fun e => ?_⟩
  have h2 := rises_lt S l h _ m _ x hm hp hx
  rw [e] at h2
  rw [h2] at h1; cases h1
end Sl
end Go.Proofs.YtdgcdekgleegbaaGreat
/- A cell put into its place, and cut; nothing of the program. -/
namespace Go.Proofs.YtdgcdekgleegbaaGreat.Sl
variable {α : Type}
def putL (S : Sh α) (l : List α) (x : α) : List α := if there S l (S.key x) then l.take (place S l (S.key x)) ++ x :: l.drop (place S l (S.key x) + 1) else l.take (place S l (S.key x)) ++ x :: l.drop (place S l (S.key x))
def cutL (S : Sh α) (l : List α) (k : List UInt8) : List α := if there S l k then l.take (place S l k) ++ l.drop (place S l k + 1) else l
theorem there_at (S : Sh α) (l : List α) (k : List UInt8) (h : there S l k = true) : ∃ y, l[place S l k]? = some y ∧ S.key y = k ∧ place S l k < l.length := by
  unfold there at h
  cases hy : l[place S l k]? with
  | none => rw [hy] at h; cases h
  | some y => rw [hy] at h; exact ⟨y, rfl, of_decide_eq_true h, (List.getElem?_eq_some_iff.1 hy).1⟩
end Go.Proofs.YtdgcdekgleegbaaGreat.Sl
/- The contract of with: a row of cells, and one more in its place. -/
namespace Go.Proofs.YtdgcdekgleegbaaGreat
open Go.RowKit
open Sl (Cl Kd Nd Rn)
theorem flat_setC : ∀ (l : List Cl) (p : Nat) (x : Cl), p < l.length → ((((l.flatMap cellsC).set (p * 4) (.string (str x.key))).set (p * 4 + 1) (.string (str x.val))).set (p * 4 + 2) (.int .u32 x.chain)).set (p * 4 + 3) (.int .u32 x.long) = (l.take p ++ x :: l.drop (p + 1)).flatMap cellsC
  | [], p, x, h => absurd h (Nat.not_lt_zero _)
  | y :: t, 0, x, _ => by simp [cellsC]
  | y :: t, p + 1, x, h => by
    have ih := flat_setC t p x (by simpa using h)
    have hy := cellsC_len y
    rw [List.take_succ_cons, List.drop_succ_cons, List.cons_append, List.flatMap_cons, List.flatMap_cons, ← ih]
    rw [List.set_append_right _ _ (by omega), show (p + 1) * 4 - (cellsC y).length = p * 4 by omega, List.set_append_right _ _ (by omega), show (p + 1) * 4 + 1 - (cellsC y).length = p * 4 + 1 by omega, List.set_append_right _ _ (by omega), show (p + 1) * 4 + 2 - (cellsC y).length = p * 4 + 2 by omega, List.set_append_right _ _ (by omega), show (p + 1) * 4 + 3 - (cellsC y).length = p * 4 + 3 by omega]

theorem row_someC {w : World} {B : Nat} {v : Value} {l : List Cl} (h : RowC w B v l) (hl : 0 < l.length) :
    ∃ g cap, v = .slice (some ⟨g, 0, none⟩) l.length cap ∧ B ≤ g ∧ l.length ≤ cap ∧ cap ≤ maxLen ∧ (∀ j u, (l.flatMap cellsC)[j]? = some u → w.cell? ⟨g, j, none⟩ = some u) ∧ ∀ j, w.frozen? ⟨g, j, none⟩ = false := by
  rcases h.2 with ⟨_, h0⟩ | ⟨g, cap, cur, hv, hB, hg, hn, hm, hs, ht⟩
  · omega
  · refine ⟨g, cap, hv, hB, hn, hm, fun j u hj => ?_, fun j => by simp [World.frozen?, hg]⟩
    rw [cell_of_row w g j _ _ (0, 0) hg]
    rw [← ht] at hj
    have hlt := (List.getElem?_eq_some_iff.1 hj).1
    rw [List.length_take] at hlt
    rw [List.getElem?_take_of_lt (by omega)] at hj
    simpa using hj
set_option maxHeartbeats 8000000 in
theorem withC_any (v : Value) (l : List Cl) (x : Cl) (hl : l.length ≤ 90000) (hr : Sl.rises Sl.shC l = true) (w : World) (hv : SlC w v l) :
    Calls Tryz.prog 99 #[shpC, v, aggC x] w (OwnC (Sl.putL Sl.shC l x) w) := by
  have HFD := Lib.hid (fun W (hW : Below w.heap.size w W) => findC_any v l (by omega) (Sl.shC.key x) W (hv.below hW) hr)
  have HCL := Lib.hid (fun W (hW : Below w.heap.size w W) => cloneC_any v l (by omega) W (hv.below hW))
  have HK := Lib.hid (fun W => keyC_any x W)
  have hple := Sl.place_le Sl.shC l (Sl.shC.key x)
  have hth := Sl.there_at Sl.shC l (Sl.shC.key x)
  have HPT : Hid (Sl.putL Sl.shC l x = if Sl.there Sl.shC l (Sl.shC.key x) then l.take (Sl.place Sl.shC l (Sl.shC.key x)) ++ x :: l.drop (Sl.place Sl.shC l (Sl.shC.key x) + 1) else l.take (Sl.place Sl.shC l (Sl.shC.key x)) ++ x :: l.drop (Sl.place Sl.shC l (Sl.shC.key x))) := rfl
  have HIN := Lib.hid (fun B vb vc v T W hv hB hvb hne => insertC_any B vb vc (Sl.place Sl.shC l (Sl.shC.key x)) v l x T W hple (by omega) hv hB hvb hne)
  generalize Sl.putL Sl.shC l x = L at HPT ⊢
  obtain ⟨a, b, o, c, rfl, ha, hx⟩ := hv
  clear ha hx hr
  generalize Sl.place Sl.shC l (Sl.shC.key x) = p at *
  generalize Sl.there Sl.shC l (Sl.shC.key x) = th at *
  unfold shpC aggC at *
  have hF : Hid (((w.alloc (.cells #[.func (.func 84) #[] #[], .func (.func 85) #[] #[], .func (.func 86) #[] #[], .func (.func 87) #[] #[]] 117)).alloc (.cells #[.string (str x.key), .string (str x.val), .int .u32 x.chain, .int .u32 x.long] 32)).drew.cell? ⟨w.heap.size, 0, none⟩ = some (.func (.func 84) #[] #[]) ∧ ((w.alloc (.cells #[.func (.func 84) #[] #[], .func (.func 85) #[] #[], .func (.func 86) #[] #[], .func (.func 87) #[] #[]] 117)).alloc (.cells #[.string (str x.key), .string (str x.val), .int .u32 x.chain, .int .u32 x.long] 32)).drew.cell? ⟨w.heap.size, 1, none⟩ = some (.func (.func 85) #[] #[]) ∧ ((w.alloc (.cells #[.func (.func 84) #[] #[], .func (.func 85) #[] #[], .func (.func 86) #[] #[], .func (.func 87) #[] #[]] 117)).alloc (.cells #[.string (str x.key), .string (str x.val), .int .u32 x.chain, .int .u32 x.long] 32)).drew.cell? ⟨w.heap.size, 2, none⟩ = some (.func (.func 86) #[] #[]) ∧ ((w.alloc (.cells #[.func (.func 84) #[] #[], .func (.func 85) #[] #[], .func (.func 86) #[] #[], .func (.func 87) #[] #[]] 117)).alloc (.cells #[.string (str x.key), .string (str x.val), .int .u32 x.chain, .int .u32 x.long] 32)).drew.cell? ⟨w.heap.size, 3, none⟩ = some (.func (.func 87) #[] #[]) ∧ ((w.alloc (.cells #[.func (.func 84) #[] #[], .func (.func 85) #[] #[], .func (.func 86) #[] #[], .func (.func 87) #[] #[]] 117)).alloc (.cells #[.string (str x.key), .string (str x.val), .int .u32 x.chain, .int .u32 x.long] 32)).drew.cell? ⟨w.heap.size + 1, 0, none⟩ = some (.string (str x.key)) ∧ ((w.alloc (.cells #[.func (.func 84) #[] #[], .func (.func 85) #[] #[], .func (.func 86) #[] #[], .func (.func 87) #[] #[]] 117)).alloc (.cells #[.string (str x.key), .string (str x.val), .int .u32 x.chain, .int .u32 x.long] 32)).drew.cell? ⟨w.heap.size + 1, 1, none⟩ = some (.string (str x.val)) ∧ ((w.alloc (.cells #[.func (.func 84) #[] #[], .func (.func 85) #[] #[], .func (.func 86) #[] #[], .func (.func 87) #[] #[]] 117)).alloc (.cells #[.string (str x.key), .string (str x.val), .int .u32 x.chain, .int .u32 x.long] 32)).drew.cell? ⟨w.heap.size + 1, 2, none⟩ = some (.int .u32 x.chain) ∧ ((w.alloc (.cells #[.func (.func 84) #[] #[], .func (.func 85) #[] #[], .func (.func 86) #[] #[], .func (.func 87) #[] #[]] 117)).alloc (.cells #[.string (str x.key), .string (str x.val), .int .u32 x.chain, .int .u32 x.long] 32)).drew.cell? ⟨w.heap.size + 1, 3, none⟩ = some (.int .u32 x.long) ∧ Below w.heap.size w ((w.alloc (.cells #[.func (.func 84) #[] #[], .func (.func 85) #[] #[], .func (.func 86) #[] #[], .func (.func 87) #[] #[]] 117)).alloc (.cells #[.string (str x.key), .string (str x.val), .int .u32 x.chain, .int .u32 x.long] 32)).drew) :=
    ⟨box0 w _ _ _ _ 0, box0 w _ _ _ _ 1, box0 w _ _ _ _ 2, box0 w _ _ _ _ 3, box1 w _ _ _ _ 0, box1 w _ _ _ _ 1, box1 w _ _ _ _ 2, box1 w _ _ _ _ 3, (boxB w _ _).drew⟩
  have HPL := Lib.hid hple
  have HTH := Lib.hid hth
  clear hple hth
  cases th with
  | true =>
    obtain ⟨y, hy, _, hpl⟩ := HTH.out rfl
    have HL : Hid (L = l.take p ++ x :: l.drop (p + 1)) := HPT.out
    have HY := Lib.hid hy
    have HLP := Lib.hid hpl
    clear HTH HPT hy hpl
    go_enter Tryz.func99, Tryz.ntmps99
    go_wp2_with fail
    go_region_held3 (fun w' => w'.cell? ⟨w.heap.size, 0, none⟩ = some (.func (.func 84) #[] #[]) ∧ w'.cell? ⟨w.heap.size, 1, none⟩ = some (.func (.func 85) #[] #[]) ∧ w'.cell? ⟨w.heap.size, 2, none⟩ = some (.func (.func 86) #[] #[]) ∧ w'.cell? ⟨w.heap.size, 3, none⟩ = some (.func (.func 87) #[] #[]) ∧ w'.cell? ⟨w.heap.size + 1, 0, none⟩ = some (.string (str x.key)) ∧ w'.cell? ⟨w.heap.size + 1, 1, none⟩ = some (.string (str x.val)) ∧ w'.cell? ⟨w.heap.size + 1, 2, none⟩ = some (.int .u32 x.chain) ∧ w'.cell? ⟨w.heap.size + 1, 3, none⟩ = some (.int .u32 x.long) ∧ Below w.heap.size w w')
      ((first | assumption | exact step8 (Nat.le_refl _) ‹_› hb | exact hF.out))
      (first
      | (go_at_call 79; (refine (HFD.out _ (last8 (by assumption))).mono ?_); rintro e w2 ⟨rfl, hb⟩)
      | (go_at_call 86; refine (HK.out _).mono ?_; rintro e w1 ⟨rfl, hb⟩))
    rename_i hS
    have HS := Lib.hid hS
    clear hS
    have HLS := Lib.hid (last8 HS.out)
    go_wp2_with (go_at_call 106; (refine (HCL.out _ HLS.out).mono ?_))
    rintro e w5 ⟨v5, rfl, hr5, hb5⟩
    have HS5 := Lib.hid (step8 (Nat.le_refl _) HS.out hb5)
    obtain ⟨g, cap, rfl, hg, hnc, hcm, hcell, hfr⟩ := row_someC hr5 (by have := HLP.out; omega)
    have HR5 := Lib.hid (hr5.base HLS.out.size)
    have HGB := Lib.hid (Nat.le_trans HLS.out.size hg)
    obtain ⟨_, _, _, _, x0, x1, x2, x3, _⟩ := HS5.out
    have hpl := HLP.out
    have hpi : (p : Int) < (l.length : Int) := by omega
    have ck0 := hcell (p * 4 + 0) _ (flat_at cellsC 4 cellsC_len l p 0 y HY.out (by decide))
    have ck1 := hcell (p * 4 + 1) _ (flat_at cellsC 4 cellsC_len l p 1 y HY.out (by decide))
    have ck2 := hcell (p * 4 + 2) _ (flat_at cellsC 4 cellsC_len l p 2 y HY.out (by decide))
    have ck3 := hcell (p * 4 + 3) _ (flat_at cellsC 4 cellsC_len l p 3 y HY.out (by decide))
    rw [Nat.add_zero] at ck0
    have HFRZ := Lib.hid hfr
    clear hcell hr5 hg hnc hcm hfr
    have fz0 := HFRZ.out (p * 4)
    have fz1 := HFRZ.out (p * 4 + 1)
    have fz2 := HFRZ.out (p * 4 + 2)
    have fz3 := HFRZ.out (p * 4 + 3)
    go_wp2
    go_ret
    have hlen : (l.take p ++ x :: l.drop (p + 1)).length = l.length := by have := HLP.out; simp only [List.length_append, List.length_take, List.length_cons, List.length_drop]; omega
    have hst := ((((HR5.out.stored (p * 4) (.string (str x.key))).1.stored (p * 4 + 1) (.string (str x.val))).1.stored (p * 4 + 2) (.int .u32 x.chain)).1.stored (p * 4 + 3) (.int .u32 x.long)).1
    rw [flat_setC l p x HLP.out] at hst
    refine ⟨_, rfl, ?_, ?_⟩
    · rw [HL.out]
      show World.ownsRow _ _ _ _ _ _ _
      rw [hlen]
      exact hst
    · exact ((((last8 HS5.out).setCell HGB.out _).setCell HGB.out _).setCell HGB.out _).setCell HGB.out _
  | false =>
    have HL : Hid (L = l.take p ++ x :: l.drop p) := HPT.out
    clear HTH HPT
    go_enter Tryz.func99, Tryz.ntmps99
    go_wp2_with fail
    go_region_held3 (fun w' => w'.cell? ⟨w.heap.size, 0, none⟩ = some (.func (.func 84) #[] #[]) ∧ w'.cell? ⟨w.heap.size, 1, none⟩ = some (.func (.func 85) #[] #[]) ∧ w'.cell? ⟨w.heap.size, 2, none⟩ = some (.func (.func 86) #[] #[]) ∧ w'.cell? ⟨w.heap.size, 3, none⟩ = some (.func (.func 87) #[] #[]) ∧ w'.cell? ⟨w.heap.size + 1, 0, none⟩ = some (.string (str x.key)) ∧ w'.cell? ⟨w.heap.size + 1, 1, none⟩ = some (.string (str x.val)) ∧ w'.cell? ⟨w.heap.size + 1, 2, none⟩ = some (.int .u32 x.chain) ∧ w'.cell? ⟨w.heap.size + 1, 3, none⟩ = some (.int .u32 x.long) ∧ Below w.heap.size w w')
      ((first | assumption | exact step8 (Nat.le_refl _) ‹_› hb | exact hF.out))
      (first
      | (go_at_call 79; (refine (HFD.out _ (last8 (by assumption))).mono ?_); rintro e w2 ⟨rfl, hb⟩)
      | (go_at_call 86; refine (HK.out _).mono ?_; rintro e w1 ⟨rfl, hb⟩))
    rename_i hS
    have HS := Lib.hid hS
    clear hS
    have HLS := Lib.hid (last8 HS.out)
    go_wp2_with (first
      | (go_at_call 140; (refine (HIN.out w.heap.size w5.heap.size 1 (.slice a5 n5 c5) _ _ (HRI.out _) (HBI.out _) (heap_alloc_new w5 _) HNE.out).mono ?_); rintro e w6 ⟨v6, rfl, hr6, hb6⟩)
      | (go_at_call 106; (refine (HCL.out _ HLS.out).mono ?_); rintro e w5 ⟨v5, rfl, hr5, hb5⟩; have HS5 := Lib.hid (step8 (Nat.le_refl _) HS.out hb5); have HB5 := Lib.hid (last8 HS5.out); obtain ⟨a5, n5, c5, ha5, hc5, hn5⟩ := hr5.cap; have HR5 := Lib.hid (hr5.base HLS.out.size); have HNE : Hid ((Value.slice a5 n5 c5).ownBlock ≠ some w5.heap.size) := (fun h => Nat.lt_irrefl _ (hr5.lo _ h)); have HRI := Lib.hid (fun o => HR5.out.below ((Below.refl w5.heap.size w5).alloc (Nat.le_refl _) o)); have HBI := Lib.hid (fun (o : Obj) => Nat.le_trans HB5.out.size ((Below.refl w5.heap.size w5).alloc (Nat.le_refl _) o).size); obtain ⟨_, _, _, _, x0, x1, x2, x3, _⟩ := HS5.out; clear hr5 hb5))
    go_ret
    refine ⟨v6, rfl, ?_, ?_⟩
    · rw [HL.out]; exact hr6
    · exact HB5.out.trans (((Below.refl _ _).alloc HB5.out.size _).trans hb6)
end Go.Proofs.YtdgcdekgleegbaaGreat
/- The contract of own: a node that shares nothing with this one, at one sort. -/
namespace Go.Proofs.YtdgcdekgleegbaaGreat
open Go.RowKit
open Sl (Cl Kd Nd Rn)
inductive OwnNC (l : List Cl) (w : World) (e : Ending) (w' : World) : Prop
  | mk (vc : Value) (he : e = .returned (ndV true vc (.slice none 0 0))) (hr : RowC w' w.heap.size vc l) (hb : Below w.heap.size w w')
theorem ownC_any (v : Value) (n : Nd) (w : World) (hv : NdV w v n) (hlf : n.leaf = true) (hl : n.cs.length ≤ 100000) :
    Calls Tryz.prog 78 #[v] w (OwnNC n.cs w) := by
  obtain ⟨vc, vk, rfl, hc, hcc, hk, hkk⟩ := hv
  have HCL := Lib.hid (fun W (hW : Below w.heap.size w W) => cloneC_any vc n.cs hl W (hc.below hW))
  rw [hlf]
  unfold ndV
  obtain ⟨a, m, c, _, _, _⟩ := hcc
  obtain ⟨a', m', c', _, _, _⟩ := hkk
  clear hc hk hl
  generalize n.cs = l at *
  have HST : Hid (∀ x1 x2, Kp w.heap.size w (row1 (w.heap.size + 1) zn) ((w.alloc (.cells #[.bool true, x1, x2] 71)).alloc (.cells #[.bool false, .slice none 0 0, .slice none 0 0] 71)) ∧ w.heap.size + 1 < ((w.alloc (.cells #[.bool true, x1, x2] 71)).alloc (.cells #[.bool false, .slice none 0 0, .slice none 0 0] 71)).heap.size) :=
    fun x1 x2 => ⟨⟨(startK w _ _ _ _).cell, (startK w _ _ _ _).froz, boxB w _ _⟩, by simp⟩
  go_enter Tryz.func78, Tryz.ntmps78
  go_wp2_with (first
    | (go_at_call 98; (with_reducible refine (HL5.out _).mono ?_); rintro e w6 ⟨rfl, hb6⟩; have HS6 := Lib.hid (HS5.out.step (Nat.le_refl _) hb6); have HR6 := Lib.hid (HR5.out.below hb6); clear hb6; obtain ⟨⟨z0, z1, z2⟩, f0, f1, f2⟩ := HS6.out.zn)
    | (go_at_call 106; (refine (HCL.out _ (HST.out _ _).1.below).mono ?_); rintro e w5 ⟨v5, rfl, hr5, hb5⟩; have HS5 := Lib.hid ((HST.out _ _).1.step (Nat.le_refl _) hb5); have HQ5 := Lib.hid (HST.out (.slice a m c) (.slice a' m' c')).2; obtain ⟨a5, n5, c5, ha5, hc5, hn5⟩ := hr5.cap; have HR5 := Lib.hid hr5; have HL5 := Lib.hid (fun W => leaf_any (.slice a5 n5 c5) ⟨a5, n5, c5, ha5, hc5, hn5⟩ W); unfold ndV at HL5; clear hr5 hb5))
  have hq := HQ5.out
  have hB := (HST.out (.slice a m c) (.slice a' m' c')).1.below.size
  refine bodyPost_ret_by (v := ndV true (.slice a5 n5 c5) (.slice none 0 0)) ?_ rfl ⟨.slice a5 n5 c5, rfl, ?_, ?_⟩
  · simp [ndV, results, Tryz.results78, go_sem, z0, z1, z2]
  · exact ((((HR6.out.set hq _).set hq _).set hq _).base hB)
  · exact below_set3 HS6.out.below (Nat.le_succ _)
end Go.Proofs.YtdgcdekgleegbaaGreat
